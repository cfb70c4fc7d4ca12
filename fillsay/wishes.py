"""Tasks: givens, gaps, and wishes, each that two sayings be alike."""

from fillsay.errors import NoLetters, NoWish, Strange, TooMany
from fillsay.forms import added, joined, row_count, row_of, worth
from fillsay.putting import put_in
from fillsay.texts import LETTERS, is_row, read

GIVENS = "abc"
GAPS = "xyz"
MOST_WISHES = 6
MOST_PARTS = 20


class Task:

    def __init__(self, givens, gaps, wishes):
        if not is_row(givens, GIVENS) or not is_row(gaps, GAPS):
            raise NoLetters()
        if len(wishes) > MOST_WISHES:
            raise TooMany()
        pairs = [wish_read(wish, givens + gaps) for wish in wishes]
        self.given_letters = givens
        self.gap_letters = gaps
        self.wish_texts = [left.text() + " = " + right.text() for left, right in pairs]
        self.side_forms = [(left.form(), right.form()) for left, right in pairs]
        self.fault_form = fault_of(self.side_forms)

    def givens(self):
        return self.given_letters

    def gaps(self):
        return self.gap_letters

    def wishes(self):
        return list(self.wish_texts)

    def sides(self):
        return list(self.side_forms)

    def fault(self):
        return self.fault_form

    def does(self, given_row, gap_row):
        row = row_of(self.given_letters, given_row)
        row.update(row_of(self.gap_letters, gap_row))
        return not worth(self.fault_form, row)

    def doing(self):
        return [self.doing_at(given_row) for given_row in range(row_count(self.given_letters))]

    def doing_at(self, given_row):
        return [gap_row for gap_row in range(row_count(self.gap_letters)) if self.does(given_row, gap_row)]

    def fills(self, filling):
        return put_in(self.fault_form, dict(zip(self.gap_letters, filling))) == ()


def wish_read(wish, letters):
    if "=" not in wish:
        raise NoWish()
    halves = wish.partition("=")
    left = read(halves[0].strip(" "))
    right = read(halves[2].strip(" "))
    if left.size() > MOST_PARTS or right.size() > MOST_PARTS:
        raise TooMany()
    refuse_strange(left.text() + right.text(), letters)
    return (left, right)


def refuse_strange(text, letters):
    for sign in text:
        if sign in LETTERS and sign not in letters:
            raise Strange(sign)


# The sum of a wish's sides is true by just the rows by which they are unlike.
def fault_of(sides):
    fault = ()
    for left, right in sides:
        fault = joined(fault, added(left, right))
    return fault
