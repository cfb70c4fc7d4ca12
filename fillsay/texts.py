"""Texts: those of sayings are read, those of forms are read and written."""

from fillsay.errors import NoForm, NoSaying
from fillsay.sayings import Always, And, Either, Letter, Never, Not, Or

LETTERS = "abcpqrxyz"
OPENING = "~("
BETWEEN = "&|+"


# What is opened and not yet ended waits in a list, not in nested calls: a text
# may open more brackets than calls should be nested.
def read(text):
    opened = []
    ended = None
    for place, sign in enumerate(text):
        if sign not in signs_behind(opened, ended):
            raise NoSaying(place)
        ended = taken(opened, ended, sign)
    if ended is None or len(opened) > 0:
        raise NoSaying(len(text))
    return ended


# A waiting one is a sign and the saying ahead of it (None, where there is none).
# Once a saying has ended, no not waits any more, so a bracket is the last.
def signs_behind(opened, ended):
    if ended is None:
        return "01" + LETTERS + OPENING
    if len(opened) == 0:
        return ""
    return BETWEEN if opened[-1][0] == "(" else ")"


# Behind a sign that opens or stands between another saying is due: so none has
# ended there, and None is told.
def taken(opened, ended, sign):
    if sign in OPENING:
        opened.append((sign, None))
        return None
    if sign in BETWEEN:
        opened[-1] = (sign, ended)
        return None
    if sign == ")":
        waiting = opened.pop()
        return with_nots(opened, pair_of(waiting[0], waiting[1], ended))
    return with_nots(opened, single_of(sign))


def with_nots(opened, saying):
    while len(opened) > 0 and opened[-1][0] == "~":
        opened.pop()
        saying = Not(saying)
    return saying


def pair_of(sign, one, other):
    if sign == "&":
        return And(one, other)
    if sign == "|":
        return Or(one, other)
    return Either(one, other)


def single_of(sign):
    if sign == "1":
        return Always()
    if sign == "0":
        return Never()
    return Letter(sign)


def form_text(form):
    if form == ():
        return "0"
    return "+".join([product if product != "" else "1" for product in form])


def form_read(text):
    if text == "0":
        return ()
    products = [product_read(part) for part in text.split("+")]
    for one, other in zip(products, products[1:]):
        if one >= other:
            raise NoForm()
    return tuple(products)


def product_read(text):
    if text == "1":
        return ""
    if text == "" or not is_row(text, LETTERS):
        raise NoForm()
    return text


# Of the letters that stand in a text just one row can be made, so a row is
# equal to it.
def is_row(text, letters):
    return text == "".join([letter for letter in letters if letter in text])
