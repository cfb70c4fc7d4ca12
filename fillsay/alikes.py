"""Alikes: whether all fillings of a task fill a gap alike, or two that don't."""

from fillsay.errors import NoFilling, Strange
from fillsay.forms import added, row_of, table_of
from fillsay.several import filling_by


# At each given row the gap's truth is as low as can be in the one filling, and
# as high in the other: so these are alike in the gap just where all are.
def gap_told(task, gap):
    # Asked of the text itself, "in" would find rows of several gaps in it too.
    if gap not in list(task.gaps()):
        raise Strange(gap)
    doing = task.doing()
    if [] in doing:
        raise NoFilling()

    def truth_in(gap_row):
        return row_of(task.gaps(), gap_row)[gap]

    one = filling_by(task.gaps(), task.givens(), [min(doing_there, key=truth_in) for doing_there in doing])
    other = filling_by(task.gaps(), task.givens(), [max(doing_there, key=truth_in) for doing_there in doing])
    place = task.gaps().index(gap)
    if one[place] == other[place]:
        return ("same", one[place])
    return ("apart", one, other, first_row(added(one[place], other[place]), task.givens()))


def first_row(form, letters):
    return table_of(form, letters).index(True)
