import itertools
import unittest

from fillsay.between import between
from fillsay.forms import added, joined, leads, multiplied, opposite
from fillsay.several import widest_filling
from fillsay.wishes import Task
from tests.helper import LETTERS, all_forms, all_rows, chance, drawn_form, form_by, full_form, is_form, true_by
from tests.helper import truths_of


def letters_in(*forms):
    return "".join(sorted(set("".join("".join(form) for form in forms))))


def leads_by_rows(one, other):
    rows = all_rows(letters_in(one, other))
    return all(later or not first for first, later in zip(truths_of(one, rows), truths_of(other, rows)))


def without(form, letters, way):
    """The form with the letters taken out, way being any (by some) or all (by every), from all rows at once."""
    kept = "".join(letter for letter in letters_in(form) if letter not in letters)
    truths = [way(true_by(form, {**row, **out}) for out in all_rows(letters)) for row in all_rows(kept)]
    return form_by(kept, truths)


def meant_ends(one, other):
    only_one = "".join(letter for letter in letters_in(one) if letter not in letters_in(other))
    only_other = "".join(letter for letter in letters_in(other) if letter not in letters_in(one))
    return without(one, only_one, any), without(other, only_other, all)


class Between(unittest.TestCase):

    def looked_at(self, one, other):
        told = between(one, other)
        self.assertIsInstance(told, tuple)
        if not leads_by_rows(one, other):
            self.row_shows(one, other, told)
            return told
        self.assertEqual((len(told), told[0]), (3, "between"))
        self.assertTrue(is_form(told[1]) and is_form(told[2]))
        self.assertEqual(told[1:], meant_ends(one, other), (one, other))
        both = set(letters_in(one)) & set(letters_in(other))
        for form in told[1:]:
            self.assertTrue(set(letters_in(form)) <= both)
            self.assertTrue(leads_by_rows(one, form) and leads_by_rows(form, other))
        return told

    def row_shows(self, one, other, told):
        self.assertEqual((len(told), told[0]), (2, "row"))
        row = told[1]
        self.assertIsInstance(row, dict)
        self.assertEqual("".join(sorted(row)), letters_in(one, other), (one, other))
        self.assertTrue(all(truth is True or truth is False for truth in row.values()))
        self.assertTrue(true_by(one, row))
        self.assertFalse(true_by(other, row))

    def test_by_hand(self):
        for one, other, least, widest in (
                ((), (), (), ()), ((), ("",), (), ("",)), (("",), ("",), ("",), ("",)),
                (("a",), ("a",), ("a",), ("a",)), ((), ("a",), (), ()), (("a",), ("",), ("",), ("",)),
                (("ab",), ("a", "ac", "c"), ("a",), ("a",)), (("ab",), ("a",), ("a",), ("a",)),
                (("a",), ("a", "ab", "b"), ("a",), ("a",)),
                (("ab",), ("a", "ab", "b"), ("ab",), ("a", "ab", "b")),
                (("ap", "apx"), ("", "qx", "x"), ("", "x"), ("", "x")),
                ((), ("x", "xy", "y"), (), ()),
                (("abc",), ("ab", "abz", "z"), ("ab",), ("ab",)),
                (("abc",), ("b", "bc", "bcz", "bz", "c", "cz", "z"), ("bc",), ("b", "bc", "c"))):
            self.assertEqual(between(one, other), ("between", least, widest))
            self.looked_at(one, other)
        for one, other, row in (
                (("",), (), {}), (("a",), (), {"a": True}), (("",), ("a",), {"a": False}),
                (("a",), ("b",), {"a": True, "b": False}), (("x",), ("xy",), {"x": True, "y": False}),
                (("", "p"), ("p",), {"p": False}), (("ab",), ("abz",), {"a": True, "b": True, "z": False})):
            self.assertEqual(between(one, other), ("row", row))
            self.looked_at(one, other)

    def test_a_row_has_letters_too_on_which_nothing_hangs(self):
        for one, other, letters in ((("a", "ab", "b"), ("ab", "b"), "ab"), (("a",), ("apz", "pz"), "apz")):
            # One is true and the other is not just where a is true.
            self.assertEqual(multiplied(one, opposite(other)), ("a",))
            told = self.looked_at(one, other)
            self.assertEqual(told[0], "row")
            self.assertEqual(sorted(told[1]), list(letters))

    def test_all_forms_of_small_letters(self):
        kinds = {"between": 0, "row": 0}
        for letters in ("", "b", "ax", "pz"):
            for one, other in itertools.product(all_forms(letters), repeat=2):
                kinds[self.looked_at(one, other)[0]] += 1
        self.assertGreater(min(kinds.values()), 100)

    def just_what_lies_between(self, one, other):
        told = self.looked_at(one, other)
        if told[0] == "row":
            return 0
        both = "".join(letter for letter in letters_in(one) if letter in letters_in(other))
        inside = 0
        for form in all_forms(both):
            lies = leads_by_rows(one, form) and leads_by_rows(form, other)
            self.assertEqual(leads(told[1], form) and leads(form, told[2]), lies, (one, other, form))
            inside += lies
        self.assertGreater(inside, 0)
        return inside

    def test_just_what_lies_between_the_two_lies_between_the_first_ones(self):
        # Each pair of forms over one own letter and a common one.
        for one, other in itertools.product(all_forms("ab"), all_forms("bc")):
            self.just_what_lies_between(one, other)
        for one, other in itertools.product(all_forms("x"), all_forms("axz")):
            self.just_what_lies_between(one, other)
        for one, other in itertools.product(all_forms("pqy"), all_forms("q")):
            self.just_what_lies_between(one, other)

    def test_several_that_lie_between(self):
        draws = chance(281)
        insides = set()
        for turn in range(300):
            shared = drawn_form(draws, "bx", 4)
            wider = joined(shared, drawn_form(draws, "bx", 4))
            one = multiplied(shared, drawn_form(draws, draws.choice(("abx", "abpx", "bx")), 8))
            other = joined(wider, drawn_form(draws, draws.choice(("bcx", "bcxz", "bx")), 8))
            insides.add(self.just_what_lies_between(one, other))
        self.assertTrue({1, 2, 4} <= insides)

    def test_drawn_forms_of_many_letters(self):
        draws = chance(282)
        kinds = {"between": 0, "row": 0}
        for turn in range(120):
            letters = "".join(sorted(draws.sample(LETTERS, draws.randint(0, 9))))
            others = "".join(sorted(draws.sample(LETTERS, draws.randint(0, 9))))
            one = drawn_form(draws, letters, draws.choice((1, 3, 10, 64)))
            other = drawn_form(draws, others, draws.choice((1, 3, 10, 64)))
            kinds[self.looked_at(one, other)[0]] += 1
            kinds[self.looked_at(multiplied(one, other), other)[0]] += 1
            kinds[self.looked_at(one, joined(one, other))[0]] += 1
        self.assertGreater(min(kinds.values()), 20)

    def test_ends_over_nine_letters_with_own_ones(self):
        draws = chance(283)
        found = 0
        for turn in range(60):
            shared = drawn_form(draws, "cpq", 8)
            one = multiplied(shared, drawn_form(draws, "abcpq", 32))
            other = joined(shared, drawn_form(draws, "cpqrxyz", 64))
            told = self.looked_at(one, other)
            self.assertEqual(told[0], "between")
            found += told[1] != told[2]
        self.assertGreater(found, 5)

    def test_no_common_letters(self):
        draws = chance(284)
        for turn in range(40):
            one = drawn_form(draws, "abcp", 16)
            other = drawn_form(draws, "qrxyz", 32)
            told = self.looked_at(one, other)
            # Without common letters one leads to other only where one is never true, or other always.
            self.assertEqual(told[0] == "between", one == () or other == ("",))
        for form in (("a",), ("p", "px"), full_form("abcxyz"), full_form(LETTERS)):
            self.assertEqual(between((), form), ("between", (), ()))
            self.assertEqual(between(form, ("",)), ("between", ("",), ("",)))

    def test_alike(self):
        draws = chance(285)
        for letters in ("", "a", "xy", "abc", "abcpqrxyz"):
            for turn in range(6):
                form = drawn_form(draws, letters, 64)
                self.assertEqual(between(form, form), ("between", form, form))
        self.assertEqual(between((), ()), ("between", (), ()))
        self.assertEqual(between(("",), ("",)), ("between", ("",), ("",)))
        self.assertEqual(between((), ("",)), ("between", (), ("",)))
        self.assertEqual(between(("",), ()), ("row", {}))

    def test_a_single_row_apart(self):
        for letters in ("", "a", "abc", "bpz", "abcxyz", "abcpqrxyz"):
            rows = all_rows(letters)
            # The form of all products is true by the row alone by which no letter is, the longest product by that
            # by which all are.
            for form, row in ((full_form(letters), rows[0]), ((letters,), rows[-1])):
                self.assertEqual(between(form, ()), ("row", row))
                self.assertEqual(between(("",), opposite(form)), ("row", row))

    def test_what_is_told_is_the_askers_own(self):
        for one, other in ((("a",), ("b",)), (("",), ()), (("x",), ("axz",))):
            told = between(one, other)
            kept = dict(told[1])
            told[1]["a"] = None
            told[1]["q"] = True
            self.assertEqual(between(one, other), ("row", kept))

    def test_what_is_told_may_be_handed_in(self):
        draws = chance(287)
        filling = widest_filling(Task("abc", "xyz", ["(x&(y|a)) = (z&b)"]))
        for one, other in itertools.permutations(filling, 2):
            self.looked_at(one, other)
            self.looked_at(multiplied(one, other), added(one, drawn_form(draws, "xyz", 4)))
        great = full_form(LETTERS)
        self.assertEqual(len(great), 512)
        self.assertEqual(between(great, great), ("between", great, great))
        self.looked_at(great, opposite(great))
        self.looked_at(opposite(great), great)


if __name__ == "__main__":
    unittest.main()
