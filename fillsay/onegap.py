"""One gap of a form: what may be put for it, so that the form is never true."""

from fillsay.forms import joined, multiplied, opposite
from fillsay.putting import every_of, fixed_at


def rest_of(form, gap):
    return every_of(form, gap)


def least_of(form, gap):
    return fixed_at(form, gap, False)


def greatest_of(form, gap):
    return opposite(fixed_at(form, gap, True))


def widest_of(form, gap, free):
    return joined(least_of(form, gap), multiplied(greatest_of(form, gap), (free,)))
