"""Forms put for letters of forms, and letters taken out of them."""

from fillsay.forms import ALWAYS, form_of, joined, letters_of, multiplied, row_count, table_of


# By each row that comes, the forms that are put tell the number of a row over
# the form's own letters; the form's truth by that one is the truth sought.
def put_in(form, forms):
    own_letters = letters_of(form)
    put_ones = [forms.get(letter, (letter,)) for letter in own_letters]
    letters = letters_in_all(put_ones)
    own_table = table_of(form, own_letters)
    return form_of(letters, [own_table[number] for number in numbers_by(put_ones, letters)])


# The forms' truths by a row over the letters are themselves a row of truths:
# the numbers of these, for all rows in order.
def numbers_by(forms, letters):
    numbers = [0] * row_count(letters)
    for form in forms:
        numbers = [2 * number + (1 if truth else 0) for number, truth in zip(numbers, table_of(form, letters))]
    return numbers


def letters_in_all(forms):
    return "".join(sorted(set("".join([letters_of(form) for form in forms]))))


def fixed_at(form, letter, truth):
    return put_in(form, {letter: ALWAYS if truth else ()})


def some_of(form, letters):
    for letter in letters:
        form = joined(fixed_at(form, letter, False), fixed_at(form, letter, True))
    return form


def every_of(form, letters):
    for letter in letters:
        form = multiplied(fixed_at(form, letter, False), fixed_at(form, letter, True))
    return form
