"""What several tests need: rows, truths and forms, reckoned apart from the program."""

import itertools
import random

LETTERS = "abcpqrxyz"


def all_rows(letters):
    # A row that tells a letter twice would make for rows without end.
    assert len(letters) <= len(LETTERS), letters
    truths = itertools.product((False, True), repeat=len(letters))
    return [dict(zip(letters, values)) for values in truths]


def true_by(form, row):
    """The truth of a form by a row, straight from point 8."""
    odd = False
    for product in form:
        if False not in [row[letter] for letter in product]:
            odd = not odd
    return odd


def truths_of(form, rows):
    return [true_by(form, row) for row in rows]


def all_products(letters):
    return ["".join(some) for size in range(len(letters) + 1)
            for some in itertools.combinations(letters, size)]


def is_product(product):
    return (isinstance(product, str)
            and all(letter in LETTERS for letter in product)
            and all(one < other for one, other in zip(product, product[1:])))


def is_form(form):
    return (isinstance(form, tuple)
            and all(is_product(product) for product in form)
            and all(one < other for one, other in zip(form, form[1:])))


def chance(seed):
    """The same draws in each run."""
    return random.Random(seed)


def drawn_form(draws, letters, most):
    """A form of at most so many products of these letters."""
    products = all_products(letters)
    size = draws.randint(0, min(most, len(products)))
    return tuple(sorted(draws.sample(products, size)))


def full_form(letters):
    return tuple(sorted(all_products(letters)))


def small_forms():
    """All forms over a and x: each truth function of the two, once."""
    products = ["", "a", "ax", "x"]
    return [tuple(some) for size in range(5) for some in itertools.combinations(products, size)]
