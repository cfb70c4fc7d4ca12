"""Several gaps: a widest filling of a task, and fillings that come of one."""

from fillsay.forms import form_of, row_count, row_of
from fillsay.putting import put_in

FREE = {"x": "p", "y": "q", "z": "r"}


def free_of(gaps):
    return "".join([FREE[gap] for gap in gaps])


def widest_filling(task):
    doing = task.doing()
    if [] in doing:
        return None
    gap_rows = []
    for doing_there in doing:
        gap_rows.extend(nearest_rows(task.gaps(), doing_there))
    return filling_by(task.gaps(), task.givens() + free_of(task.gaps()), gap_rows)


# Where the free letters' own truths do, they stay, so that each filling comes
# of itself; where they don't, any row that does is as good as another.
def nearest_rows(gaps, doing_there):
    return [row if row in doing_there else doing_there[0] for row in range(row_count(gaps))]


def filling_by(gaps, letters, gap_rows):
    truths = [row_of(gaps, row) for row in gap_rows]
    return [form_of(letters, [row[gap] for row in truths]) for gap in gaps]


def filler(gaps, filling):
    # The asker may change the list behind this call.
    kept = list(filling)

    def filled(forms):
        put = dict(zip(free_of(gaps), forms))
        return [put_in(form, put) for form in kept]

    return filled
