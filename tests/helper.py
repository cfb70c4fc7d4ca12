"""What several tests need: rows, truths and forms, reckoned apart from the program, and things drawn."""

import itertools
import random

from fillsay.sayings import Always, And, Either, Letter, Never, Not, Or

LETTERS = "abcpqrxyz"


def all_rows(letters):
    # A row that tells a letter twice would make for rows without end.
    assert len(letters) <= len(LETTERS), letters
    truths = itertools.product((False, True), repeat=len(letters))
    return [dict(zip(letters, values)) for values in truths]


def true_by(form, row):
    """The truth of a form by a row, straight from point 8."""
    odd = False
    for product in form:
        if False not in [row[letter] for letter in product]:
            odd = not odd
    return odd


def truths_of(form, rows):
    return [true_by(form, row) for row in rows]


def all_products(letters):
    return ["".join(some) for size in range(len(letters) + 1)
            for some in itertools.combinations(letters, size)]


def is_product(product):
    return (isinstance(product, str)
            and all(letter in LETTERS for letter in product)
            and all(one < other for one, other in zip(product, product[1:])))


def is_form(form):
    return (isinstance(form, tuple)
            and all(is_product(product) for product in form)
            and all(one < other for one, other in zip(form, form[1:])))


def chance(seed):
    """The same draws in each run."""
    return random.Random(seed)


def drawn_form(draws, letters, most):
    """A form of at most so many products of these letters."""
    products = all_products(letters)
    size = draws.randint(0, min(most, len(products)))
    return tuple(sorted(draws.sample(products, size)))


def full_form(letters):
    return tuple(sorted(all_products(letters)))


def small_forms():
    """All forms over a and x: each truth function of the two, once."""
    products = ["", "a", "ax", "x"]
    return [tuple(some) for size in range(5) for some in itertools.combinations(products, size)]


def meant(text, row):
    """The truth of a saying's text, read sign by sign as point 5 writes it."""
    truth, rest = meant_first(text, row)
    assert rest == "", text
    return truth


def meant_first(text, row):
    """The truth of the saying that the text begins with, and what stands behind it."""
    if text[0] == "~":
        one, rest = meant_first(text[1:], row)
        return not one, rest
    if text[0] == "(":
        one, rest = meant_first(text[1:], row)
        other, behind = meant_first(rest[1:], row)
        assert behind[0] == ")", text
        return {"&": one and other, "|": one or other, "+": one != other}[rest[0]], behind[1:]
    return {"1": True, "0": False, **row}[text[0]], text[1:]


def drawn_saying(draws, letters, size):
    """A saying of just so many parts."""
    if size == 1:
        sign = draws.choice(letters + "01" + letters)
        return {"0": Never, "1": Always}.get(sign, lambda: Letter(sign))()
    if size == 2 or draws.randint(0, 4) == 0:
        return Not(drawn_saying(draws, letters, size - 1))
    ahead = draws.randint(1, size - 2)
    kind = draws.choice((And, Or, Either))
    return kind(drawn_saying(draws, letters, ahead), drawn_saying(draws, letters, size - 1 - ahead))
