"""What several tests need: rows, truths and forms, reckoned apart from the program, and things drawn."""

import itertools
import random

from fillsay.sayings import Always, And, Either, Letter, Never, Not, Or

LETTERS = "abcpqrxyz"
FREE = {"x": "p", "y": "q", "z": "r"}
GIVEN_ROWS = ("", "a", "b", "c", "ab", "ac", "bc", "abc")
GAP_ROWS = ("", "x", "y", "z", "xy", "xz", "yz", "xyz")


def all_rows(letters):
    # A row that tells a letter twice would make for rows without end.
    assert len(letters) <= len(LETTERS), letters
    truths = itertools.product((False, True), repeat=len(letters))
    return [dict(zip(letters, values)) for values in truths]


def true_by(form, row):
    """The truth of a form by a row, straight from point 8."""
    odd = False
    for product in form:
        if False not in [row[letter] for letter in product]:
            odd = not odd
    return odd


def truths_of(form, rows):
    return [true_by(form, row) for row in rows]


def all_products(letters):
    return ["".join(some) for size in range(len(letters) + 1)
            for some in itertools.combinations(letters, size)]


def is_product(product):
    return (isinstance(product, str)
            and all(letter in LETTERS for letter in product)
            and all(one < other for one, other in zip(product, product[1:])))


def is_form(form):
    return (isinstance(form, tuple)
            and all(is_product(product) for product in form)
            and all(one < other for one, other in zip(form, form[1:])))


def chance(seed):
    """The same draws in each run."""
    return random.Random(seed)


def drawn_form(draws, letters, most):
    """A form of at most so many products of these letters."""
    products = all_products(letters)
    size = draws.randint(0, min(most, len(products)))
    return tuple(sorted(draws.sample(products, size)))


def full_form(letters):
    return tuple(sorted(all_products(letters)))


def small_forms():
    """All forms over a and x: each truth function of the two, once."""
    products = ["", "a", "ax", "x"]
    return [tuple(some) for size in range(5) for some in itertools.combinations(products, size)]


def meant(text, row):
    """The truth of a saying's text, read sign by sign as point 5 writes it."""
    truth, rest = meant_first(text, row)
    assert rest == "", text
    return truth


def meant_first(text, row):
    """The truth of the saying that the text begins with, and what stands behind it."""
    if text[0] == "~":
        one, rest = meant_first(text[1:], row)
        return not one, rest
    if text[0] == "(":
        one, rest = meant_first(text[1:], row)
        other, behind = meant_first(rest[1:], row)
        assert behind[0] == ")", text
        return {"&": one and other, "|": one or other, "+": one != other}[rest[0]], behind[1:]
    return {"1": True, "0": False, **row}[text[0]], text[1:]


def drawn_saying(draws, letters, size):
    """A saying of just so many parts."""
    if size == 1:
        sign = draws.choice(letters + "01" + letters)
        return {"0": Never, "1": Always}.get(sign, lambda: Letter(sign))()
    if size == 2 or draws.randint(0, 4) == 0:
        return Not(drawn_saying(draws, letters, size - 1))
    ahead = draws.randint(1, size - 2)
    kind = draws.choice((And, Or, Either))
    return kind(drawn_saying(draws, letters, ahead), drawn_saying(draws, letters, size - 1 - ahead))



def sides_of(wish):
    """The texts of the two sides of a wish, as point 15 tells."""
    place = wish.index("=")
    return wish[:place].strip(" "), wish[place + 1:].strip(" ")


def fails(wishes, row):
    return any(meant(left, row) != meant(right, row) for left, right in [sides_of(wish) for wish in wishes])


def row_at(letters, number):
    """The row of truths with this number, as point 10 tells."""
    size = len(letters)
    return {letter: number // 2 ** (size - 1 - place) % 2 == 1 for place, letter in enumerate(letters)}


def drawn_wish(draws, letters, most):
    left = drawn_saying(draws, letters, draws.randint(1, most)).text()
    right = drawn_saying(draws, letters, draws.randint(1, most)).text()
    return left + draws.choice(("=", " = ", "  =", "= ")) + right


def drawn_tasks(seed, turns):
    """Givens, gaps and wishes: over all rows of either kind, of none to six wishes."""
    draws = chance(seed)
    told = []
    for givens, gaps in itertools.product(GIVEN_ROWS, GAP_ROWS):
        for turn in range(turns):
            wishes = [drawn_wish(draws, givens + gaps, 9) for wish in range(draws.choice((0, 1, 1, 2, 3, 6)))]
            told.append((givens, gaps, wishes))
    return told


def meant_to_fill(givens, gaps, wishes, filling):
    """By all rows of the givens and the free letters, with the truths of the filling for the gaps."""
    for row in all_rows(givens + "".join(FREE[gap] for gap in gaps)):
        truths = {gap: true_by(form, row) for gap, form in zip(gaps, filling)}
        if fails(wishes, {**row, **truths}):
            return False
    return True


def meant_to_do(givens, gaps, wishes):
    """For each given row the gap rows that do there, straight from the wishes' texts."""
    return [[gap_row for gap_row in range(2 ** len(gaps))
             if not fails(wishes, {**row_at(givens, given_row), **row_at(gaps, gap_row)})]
            for given_row in range(2 ** len(givens))]


def all_forms(letters):
    """Each form with no other letters than these."""
    products = sorted(all_products(letters))
    return [tuple(some) for size in range(len(products) + 1) for some in itertools.combinations(products, size)]


def plain_fillings(givens, gaps):
    return [list(forms) for forms in itertools.product(all_forms(givens), repeat=len(gaps))]


def gap_rows_of(givens, gaps, plain):
    """The gap row that a plain filling has at each given row."""
    return [number_at(gaps, {gap: true_by(form, row) for gap, form in zip(gaps, plain)})
            for row in all_rows(givens)]


def number_at(letters, row):
    """The number of a row of truths, as point 10 tells."""
    return sum(2 ** (len(letters) - 1 - place) for place, letter in enumerate(letters) if row[letter])


def gap_rows_out_of(givens, gaps, filling, plain):
    """The gap row at each given row of what comes of the filling, the plain one put for the free letters."""
    told = []
    for row in all_rows(givens):
        free = {FREE[gap]: true_by(form, row) for gap, form in zip(gaps, plain)}
        told.append(number_at(gaps, {gap: true_by(form, {**row, **free}) for gap, form in zip(gaps, filling)}))
    return told


def drawn_filling(draws, givens, gaps, doing):
    """A plain filling with, at each given row, one of the gap rows that do there."""
    rows = [row_at(gaps, draws.choice(doing_there)) for doing_there in doing]
    return [form_by(givens, [row[gap] for row in rows]) for gap in gaps]


def form_by(letters, truths):
    """The form with these truths, row by row: a row's own product turns its truth, and none of a row ahead of it."""
    form = set()
    for row, truth in zip(all_rows(letters), truths):
        if true_by(sorted(form), row) != truth:
            form ^= {"".join(letter for letter in letters if row[letter])}
    return tuple(sorted(form))


def sum_text(products):
    """A saying's text that is true where an odd number of the products are."""
    if not products:
        return "0"
    first = products[0] or "1"
    text = "(" * (len(first) - 1) + first[0] + "".join("&" + letter + ")" for letter in first[1:])
    return "(" + text + "+" + sum_text(products[1:]) + ")" if products[1:] else text


def wish_with_fault(form):
    """A wish that fails by just the rows by which the form is true, with products on either side."""
    return sum_text(form[::2]) + " = " + sum_text(form[1::2])


def small_tasks():
    """One task of each fault over three letters at most: givens, gaps and its one wish."""
    told = []
    for givens, gaps in (("", ""), ("a", ""), ("ab", ""), ("", "x"), ("", "yz"), ("b", "y"), ("ac", "x"), ("b", "xz"),
                         ("", "xyz")):
        told += [(givens, gaps, [wish_with_fault(form)]) for form in all_forms(givens + gaps)]
    return told
