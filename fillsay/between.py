"""Between: what lies between two forms of which one leads to the other."""

from fillsay.forms import leads, letters_of, multiplied, opposite, row_of, table_of
from fillsay.putting import every_of, some_of


def between(one, other):
    if not leads(one, other):
        return ("row", row_apart(one, other))
    least = some_of(one, letters_beside(one, other))
    widest = every_of(other, letters_beside(other, one))
    return ("between", least, widest)


def letters_beside(one, other):
    shared = letters_of(other)
    return "".join([letter for letter in letters_of(one) if letter not in shared])


# The form that is true by just the rows sought may hang on fewer letters than
# the two, but a row is to have the letters of both.
def row_apart(one, other):
    letters = letters_of(one + other)
    apart = table_of(multiplied(one, opposite(other)), letters)
    return row_of(letters, apart.index(True))
