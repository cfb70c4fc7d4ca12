"""Papers: that the gaps of a task can be filled, and how, or that they can't."""

from fillsay.forms import added, leads, row_count, row_of, worth
from fillsay.putting import every_of, letters_in_all
from fillsay.several import filler, free_of, widest_filling


def paper_of(task):
    filling = widest_filling(task)
    if filling is not None:
        return ("filled", filling)
    rows = rows_without(task)
    return ("nothing", rows, form_without(task), [first_failing(task, row) for row in rows])


def stands(task, paper):
    if paper[0] == "filled":
        return is_widest(task, paper[1])
    return shows_nothing(task, paper[1], paper[2], paper[3])


def rows_without(task):
    return [row for row, doing_there in enumerate(task.doing()) if doing_there == []]


# No gap row does just where the fault is true with each truths of the gaps.
def form_without(task):
    return every_of(task.fault(), task.gaps())


def failing_at(task, given_row):
    return [failing_by(task, given_row, gap_row) for gap_row in range(row_count(task.gaps()))]


def failing_by(task, given_row, gap_row):
    row = row_of(task.givens(), given_row)
    row.update(row_of(task.gaps(), gap_row))
    return [number for number, sides in enumerate(task.sides()) if worth(sides[0], row) != worth(sides[1], row)]


def first_failing(task, given_row):
    return [numbers[0] for numbers in failing_at(task, given_row)]


def is_widest(task, filling):
    if len(filling) != len(task.gaps()):
        return False
    letters = task.givens() + free_of(task.gaps())
    if not all([letter in letters for letter in letters_in_all(filling)]):
        return False
    return task.fills(filling) and keeps_what_does(task, filling)


# Where something fills, each gap row that does at a given row is that of some
# plain filling there. So all of these come of the filling just where it gives
# back the gaps' own truths, put for the free letters, by each row that does.
def keeps_what_does(task, filling):
    gaps = task.gaps()
    given_back = filler(gaps, filling)([(gap,) for gap in gaps])
    return all([leads(added(form, (gap,)), task.fault()) for form, gap in zip(given_back, gaps)])


def shows_nothing(task, rows, form, table):
    if rows == [] or rows != rows_without(task) or form != form_without(task):
        return False
    if len(table) != len(rows):
        return False
    return all([names_failing(task, row, numbers) for row, numbers in zip(rows, table)])


def names_failing(task, given_row, numbers):
    failing = failing_at(task, given_row)
    if len(numbers) != len(failing):
        return False
    return all([number in failing_there for number, failing_there in zip(numbers, failing)])
