import unittest

from fillsay.forms import added, form_of, joined, leads, letters_of, multiplied, opposite
from fillsay.forms import row_of, table_of, worth
from tests.helper import LETTERS, all_products, all_rows, chance, drawn_form, full_form, is_form
from tests.helper import small_forms, true_by, truths_of

RULES = (
    (added, lambda one, other: one != other),
    (multiplied, lambda one, other: one and other),
    (joined, lambda one, other: one or other),
)


def some_pairs():
    """Ordinary pairs and the edges: none, always, equal ones, no letter in common."""
    draws = chance(20)
    pairs = [(one, other) for one in small_forms() for other in small_forms()]
    for letters in ("abc", "abxy", "apxz", "bcqry"):
        for turn in range(12):
            pairs.append((drawn_form(draws, letters, 64), drawn_form(draws, letters, 64)))
    for turn in range(12):
        pairs.append((drawn_form(draws, "abc", 8), drawn_form(draws, "xyz", 8)))
        pairs.append((drawn_form(draws, "apx", 8), drawn_form(draws, "pqz", 8)))
    drawn = [one for one, other in pairs[-30:]]
    for form in drawn:
        pairs.extend([(form, form), (form, ()), ((), form), (form, ("",)), (("",), form)])
    return pairs


def great_pairs():
    """Forms of sixty-four products, over the same, some and nearly no letters in common."""
    draws = chance(64)
    wide = tuple(sorted(draws.sample(all_products(LETTERS), 64)))
    return [
        (full_form("abcxyz"), full_form("abcxyz")),
        (full_form("abcxyz"), wide),
        (wide, full_form("pqrxyz")),
        (full_form("abcpqr"), full_form("cpqxyz")),
        (wide, tuple(sorted(draws.sample(all_products(LETTERS), 64)))),
    ]


class Reckoned(unittest.TestCase):

    def held(self, one, other):
        rows = all_rows(letters_of(one + other))
        lefts = truths_of(one, rows)
        rights = truths_of(other, rows)
        for function, rule in RULES:
            told = function(one, other)
            self.assertTrue(is_form(told), (function, one, other, told))
            wished = [rule(left, right) for left, right in zip(lefts, rights)]
            self.assertEqual(truths_of(told, rows), wished, (function, one, other))
            self.assertEqual(function(tuple(one), tuple(other)), told)
        against = opposite(one)
        self.assertTrue(is_form(against))
        self.assertEqual(truths_of(against, rows), [not left for left in lefts])
        leading = all(right for left, right in zip(lefts, rights) if left)
        self.assertIs(leads(one, other), leading, (one, other))

    def test_against_the_truths_by_all_rows(self):
        for one, other in some_pairs():
            self.held(one, other)

    def test_forms_of_sixty_four_products(self):
        for one, other in great_pairs():
            self.assertEqual(len(one), 64)
            self.held(one, other)

    def test_added(self):
        self.assertEqual(added((), ()), ())
        self.assertEqual(added(("a",), ()), ("a",))
        self.assertEqual(added((), ("", "a")), ("", "a"))
        self.assertEqual(added(("", "a"), ("a", "ab")), ("", "ab"))
        self.assertEqual(added(("b", "x"), ("a", "ab")), ("a", "ab", "b", "x"))
        self.assertEqual(added(("a", "x"), ("a", "x")), ())

    def test_multiplied(self):
        self.assertEqual(multiplied((), ("", "a")), ())
        self.assertEqual(multiplied(("",), ("", "a")), ("", "a"))
        self.assertEqual(multiplied(("a",), ("a",)), ("a",))
        self.assertEqual(multiplied(("x",), ("a",)), ("ax",))
        self.assertEqual(multiplied(("", "a"), ("a",)), ())
        self.assertEqual(multiplied(("b",), ("", "a", "c")), ("ab", "b", "bc"))
        self.assertEqual(multiplied(("a", "b"), ("a", "b")), ("a", "b"))
        self.assertEqual(multiplied(("az",), ("bq",)), ("abqz",))

    def test_joined(self):
        self.assertEqual(joined((), ()), ())
        self.assertEqual(joined(("",), ("a",)), ("",))
        self.assertEqual(joined(("a",), ()), ("a",))
        self.assertEqual(joined(("a",), ("b",)), ("a", "ab", "b"))
        self.assertEqual(joined(("a",), ("", "a")), ("",))

    def test_opposite(self):
        self.assertEqual(opposite(()), ("",))
        self.assertEqual(opposite(("",)), ())
        self.assertEqual(opposite(("a",)), ("", "a"))
        self.assertEqual(opposite(("", "ab", "b")), ("ab", "b"))

    def test_leads(self):
        self.assertIs(leads((), ()), True)
        self.assertIs(leads((), ("a",)), True)
        self.assertIs(leads(("a",), ()), False)
        self.assertIs(leads(("a",), ("",)), True)
        self.assertIs(leads(("",), ("a",)), False)
        self.assertIs(leads(("",), ("",)), True)
        self.assertIs(leads(("ab",), ("a",)), True)
        self.assertIs(leads(("a",), ("ab",)), False)
        self.assertIs(leads(("a",), ("x",)), False)
        self.assertIs(leads(("a", "b"), ("a", "ab", "b")), True)

    def test_what_was_told_may_be_handed_in_however_great(self):
        some = ()
        for letter in LETTERS:
            some = joined(some, (letter,))
        self.assertEqual(some, full_form(LETTERS)[1:])
        self.assertEqual(multiplied(some, some), some)
        self.assertEqual(joined(some, full_form(LETTERS)), ("",))
        self.assertEqual(multiplied(some, opposite(some)), ())
        self.assertIs(leads(some, some), True)
        self.assertIs(leads(("",), some), False)
        self.assertEqual(letters_of(some), LETTERS)
        self.assertIs(worth(some, dict.fromkeys(LETTERS, True)), True)
        self.assertIs(worth(some, dict.fromkeys(LETTERS, False)), False)
        self.assertEqual(form_of(LETTERS, table_of(some, LETTERS)), some)


class Letters(unittest.TestCase):

    def test_letters_of(self):
        self.assertEqual(letters_of(()), "")
        self.assertEqual(letters_of(("",)), "")
        self.assertEqual(letters_of(("", "a", "ab", "b")), "ab")
        self.assertEqual(letters_of(("az", "bq")), "abqz")
        self.assertEqual(letters_of(("cx", "p", "z")), "cpxz")
        self.assertEqual(letters_of(("abcpqrxyz",)), LETTERS)

    def test_the_truth_hangs_on_each_letter_and_on_no_other(self):
        draws = chance(8)
        for form in [drawn_form(draws, "acpxy", 5) for turn in range(30)]:
            rows = all_rows("acpxy")
            for letter in "acpxy":
                hangs = any(worth(form, row) != worth(form, {**row, letter: not row[letter]}) for row in rows)
                self.assertEqual(hangs, letter in letters_of(form), (form, letter))


class Worth(unittest.TestCase):

    def test_by_all_rows(self):
        draws = chance(6)
        for form in small_forms() + [drawn_form(draws, "abpxz", 32) for turn in range(20)]:
            for row in all_rows("abpxz"):
                self.assertIs(worth(form, row), true_by(form, row))

    def test_the_edges(self):
        self.assertIs(worth((), {}), False)
        self.assertIs(worth(("",), {}), True)
        self.assertIs(worth(("", "a"), {"a": True}), False)
        self.assertIs(worth(("", "a"), {"a": False}), True)
        self.assertIs(worth(("", "a", "ab", "b"), {"a": True, "b": True}), False)
        self.assertIs(worth(("a", "ab", "b"), {"a": True, "b": True}), True)

    def test_other_letters_beside(self):
        beside = {"z": True, "b": True, "q": False, "a": False}
        self.assertIs(worth((), beside), False)
        self.assertIs(worth(("",), beside), True)
        self.assertIs(worth(("b",), beside), True)
        self.assertIs(worth(("a", "ab"), beside), False)

    def test_the_row_handed_in_stays(self):
        row = {"x": True, "a": False}
        worth(("a", "ax", "x"), row)
        self.assertEqual(list(row.items()), [("x", True), ("a", False)])


class Tables(unittest.TestCase):

    ROWS = ("", "a", "z", "ax", "abc", "pqr", "acpz", "abcxy", "abcxyz", "bcpqyz")

    def by_number(self, letters, number):
        size = len(letters)
        return {letter: number // 2 ** (size - 1 - place) % 2 == 1 for place, letter in enumerate(letters)}

    def test_row_of_by_the_numbers(self):
        for letters in self.ROWS:
            for number in range(2 ** len(letters)):
                row = row_of(letters, number)
                self.assertEqual(row, self.by_number(letters, number))
                self.assertTrue(all(truth is True or truth is False for truth in row.values()))

    def test_row_of_by_hand(self):
        self.assertEqual(row_of("", 0), {})
        self.assertEqual(row_of("abx", 0), {"a": False, "b": False, "x": False})
        self.assertEqual(row_of("abx", 1), {"a": False, "b": False, "x": True})
        self.assertEqual(row_of("abx", 4), {"a": True, "b": False, "x": False})
        self.assertEqual(row_of("abx", 7), {"a": True, "b": True, "x": True})

    def test_table_of_by_the_numbers(self):
        draws = chance(10)
        for letters in self.ROWS:
            for form in [(), ("",)] + [drawn_form(draws, letters, 64) for turn in range(6)]:
                table = table_of(form, letters)
                wished = [true_by(form, self.by_number(letters, number)) for number in range(2 ** len(letters))]
                self.assertEqual(table, wished, (form, letters))
                self.assertIsInstance(table, list)
                self.assertTrue(all(truth is True or truth is False for truth in table))

    def test_table_of_by_hand(self):
        self.assertEqual(table_of((), ""), [False])
        self.assertEqual(table_of(("",), ""), [True])
        self.assertEqual(table_of(("a",), "a"), [False, True])
        self.assertEqual(table_of(("a",), "ab"), [False, False, True, True])
        self.assertEqual(table_of(("b",), "ab"), [False, True, False, True])
        self.assertEqual(table_of(("", "ab"), "ab"), [True, True, True, False])
        self.assertEqual(table_of(("",), "xy"), [True] * 4)

    def test_a_table_over_letters_that_do_not_stand_in_the_form(self):
        self.assertEqual(table_of(("p",), "apz"), [False, False, True, True] * 2)

    def test_sixty_four_products_over_six_letters(self):
        table = table_of(full_form("abcxyz"), "abcxyz")
        self.assertEqual(table, [True] + [False] * 63)
        self.assertEqual(form_of("abcxyz", table), full_form("abcxyz"))

    def test_each_table_is_that_of_just_one_form(self):
        for letters in ("", "y", "bq", "acx"):
            size = 2 ** len(letters)
            forms = {}
            for code in range(2 ** size):
                table = [code >> place & 1 == 1 for place in range(size)]
                form = form_of(letters, table)
                self.assertTrue(is_form(form))
                self.assertTrue(set(letters_of(form)) <= set(letters))
                self.assertEqual(table_of(form, letters), table)
                forms[form] = True
            self.assertEqual(len(forms), 2 ** size)

    def test_there_and_back_over_more_letters(self):
        draws = chance(66)
        for letters in ("abxy", "acqrz", "abcxyz", "cpqrxz"):
            for turn in range(12):
                table = [draws.randint(0, 1) == 1 for place in range(2 ** len(letters))]
                form = form_of(letters, table)
                self.assertTrue(is_form(form))
                self.assertEqual(table_of(form, letters), table)
                drawn = drawn_form(draws, letters, 64)
                self.assertEqual(form_of(letters, table_of(drawn, letters)), drawn)

    def test_form_of_by_hand(self):
        self.assertEqual(form_of("", [False]), ())
        self.assertEqual(form_of("", [True]), ("",))
        self.assertEqual(form_of("ab", [False, True, True, True]), ("a", "ab", "b"))
        self.assertEqual(form_of("ab", [True, False, False, False]), ("", "a", "ab", "b"))
        self.assertEqual(form_of("ab", [False, False, True, True]), ("a",))

    def test_somewhat_more_than_six_letters(self):
        for letters in ("abcpxyz", LETTERS):
            form = ("", "ab", "abxz", "c", "pxy")
            table = table_of(form, letters)
            wished = [true_by(form, self.by_number(letters, number)) for number in range(2 ** len(letters))]
            self.assertEqual(table, wished)
            self.assertEqual(form_of(letters, table), form)


class Kept(unittest.TestCase):

    def test_told_tables_are_new_each_time(self):
        for form, letters in (((), ""), (("",), ""), (("a", "ax"), "ax")):
            table = table_of(form, letters)
            kept = list(table)
            table[0] = not table[0]
            table.append(True)
            again = table_of(form, letters)
            self.assertEqual(again, kept)
            self.assertIsNot(again, table_of(form, letters))

    def test_told_rows_are_new_each_time(self):
        row = row_of("ax", 1)
        row["a"] = True
        row["q"] = True
        self.assertEqual(row_of("ax", 1), {"a": False, "x": True})
        nothing = row_of("", 0)
        nothing["a"] = True
        self.assertEqual(row_of("", 0), {})

    def test_a_table_handed_in_stays_and_may_be_changed_after(self):
        for letters in ("", "ax", "abcxyz"):
            table = [number % 3 == 0 for number in range(2 ** len(letters))]
            kept = list(table)
            form = form_of(letters, table)
            self.assertEqual(table, kept)
            same = tuple(list(form))
            table[0] = not table[0]
            self.assertEqual(form, same)
            self.assertEqual(form_of(letters, kept), same)


if __name__ == "__main__":
    unittest.main()
