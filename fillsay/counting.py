"""Counting: how many plain fillings fill a task, and the number of each."""

from fillsay.errors import NoFilling, NoNumber
from fillsay.putting import numbers_by
from fillsay.several import filling_by


def how_many(task):
    count = 1
    for doing_there in task.doing():
        count = count * len(doing_there)
    return count


def filling_at(task, number):
    if number < 0 or number >= how_many(task):
        raise NoNumber()
    gap_rows = []
    # The figure of the last given row counts least, so it comes off first.
    for doing_there in reversed(task.doing()):
        gap_rows.append(doing_there[number % len(doing_there)])
        number = number // len(doing_there)
    gap_rows.reverse()
    return filling_by(task.gaps(), task.givens(), gap_rows)


def number_of(task, filling):
    if not task.fills(filling):
        raise NoFilling()
    number = 0
    for doing_there, gap_row in zip(task.doing(), numbers_by(filling, task.givens())):
        number = number * len(doing_there) + doing_there.index(gap_row)
    return number
