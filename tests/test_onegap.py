import itertools
import unittest

from fillsay.forms import added, leads, multiplied, opposite
from fillsay.onegap import greatest_of, least_of, rest_of, widest_of
from fillsay.putting import put_in
from tests.helper import LETTERS, all_forms, all_rows, chance, drawn_form, full_form, is_form, true_by, truths_of


def letters_in(form):
    return set("".join(form))


def without(letter):
    return "".join(other for other in LETTERS if other != letter)


def fixed_truths(form, gap, truth, rows):
    return [true_by(form, {**row, gap: truth}) for row in rows]


def makes_never(form, gap, put, rows):
    """Whether the form is false by all rows, with the truths of what is put for the gap."""
    return not any(true_by(form, {**row, gap: true_by(put, row)}) for row in rows)


def drawn_pairs(seed):
    """Forms, each with letters that stand in it and such as do not."""
    draws = chance(seed)
    forms = [(), ("",), ("x",), ("", "x"), ("a",), ("ax",), ("a", "x"), ("", "a", "ax")]
    for turn in range(30):
        letters = "".join(sorted(draws.sample(LETTERS, draws.randint(1, 6))))
        forms.append(drawn_form(draws, letters, 64))
    return [(form, gap) for form in forms for gap in LETTERS]


class RestLeastGreatest(unittest.TestCase):

    def test_by_hand(self):
        for form, gap, rest, least, greatest in (
                ((), "x", (), (), ("",)),
                (("",), "x", ("",), ("",), ()),
                (("x",), "x", (), (), ()),
                (("", "x"), "x", (), ("",), ("",)),
                (("a", "x"), "x", (), ("a",), ("a",)),
                (("", "a", "x"), "x", (), ("", "a"), ("", "a")),
                (("a", "ax"), "x", (), ("a",), ("",)),
                (("ax",), "x", (), (), ("", "a")),
                (("a", "ax", "x"), "x", ("a",), ("a",), ()),
                (("a",), "x", ("a",), ("a",), ("", "a")),
                (("ax",), "a", (), (), ("", "x")),
                (("p", "pq"), "q", (), ("p",), ("",))):
            self.assertEqual(rest_of(form, gap), rest, (form, gap))
            self.assertEqual(least_of(form, gap), least, (form, gap))
            self.assertEqual(greatest_of(form, gap), greatest, (form, gap))

    def test_against_the_truths_by_all_rows(self):
        standing = {True: 0, False: 0}
        for form, gap in drawn_pairs(19):
            told = (rest_of(form, gap), least_of(form, gap), greatest_of(form, gap))
            for one in told:
                self.assertTrue(is_form(one), (form, gap))
                self.assertNotIn(gap, letters_in(one), (form, gap))
                self.assertTrue(letters_in(one) <= letters_in(form), (form, gap))
            rows = all_rows("".join(sorted(letters_in(form) - {gap})))
            low = fixed_truths(form, gap, False, rows)
            high = fixed_truths(form, gap, True, rows)
            rest, least, greatest = [truths_of(one, rows) for one in told]
            self.assertEqual(rest, [one and other for one, other in zip(low, high)], (form, gap))
            self.assertEqual(least, low, (form, gap))
            self.assertEqual(greatest, [not truth for truth in high], (form, gap))
            standing[gap in letters_in(form)] += 1
        self.assertGreater(min(standing.values()), 50)

    def test_over_all_nine_letters(self):
        full = full_form(LETTERS)
        for gap in LETTERS:
            others = full_form(without(gap))
            self.assertEqual(least_of(full, gap), others)
            self.assertEqual(greatest_of(full, gap), ("",))
            self.assertEqual(rest_of(full, gap), ())

    def test_a_letter_that_does_not_stand_in_the_form(self):
        for form in all_forms("ab"):
            self.assertEqual(rest_of(form, "x"), form)
            self.assertEqual(least_of(form, "x"), form)
            self.assertEqual(truths_of(greatest_of(form, "x"), all_rows("ab")),
                             [not truth for truth in truths_of(form, all_rows("ab"))])


class WhatMakesNever(unittest.TestCase):

    def looked_through(self, gap, others):
        """All forms of the gap and the others, and all forms of the others that are put for the gap."""
        rows = all_rows(others)
        puts = all_forms(others)
        for form in all_forms("".join(sorted(gap + others))):
            least, greatest = least_of(form, gap), greatest_of(form, gap)
            found = False
            for put in puts:
                makes = makes_never(form, gap, put, rows)
                self.assertEqual(put_in(form, {gap: put}) == (), makes, (form, gap, put))
                self.assertEqual(leads(least, put) and leads(put, greatest), makes, (form, gap, put))
                found = found or makes
            self.assertEqual(rest_of(form, gap) == (), found, (form, gap))

    def test_over_no_other_letter(self):
        for gap in LETTERS:
            self.looked_through(gap, "")

    def test_over_one_other_letter(self):
        for gap, other in itertools.permutations("abpxz", 2):
            self.looked_through(gap, other)

    def test_over_two_other_letters(self):
        for gap, others in (("x", "ab"), ("b", "ax"), ("a", "pz")):
            self.looked_through(gap, others)

    def test_forms_put_with_letters_that_do_not_stand_in_the_form(self):
        draws = chance(191)
        both = {True: 0, False: 0}
        for form in all_forms("ax"):
            for put in all_forms("bp") + [drawn_form(draws, "abcpyz", 9) for turn in range(4)]:
                makes = makes_never(form, "x", put, all_rows("abcpyz"))
                self.assertEqual(leads(least_of(form, "x"), put) and leads(put, greatest_of(form, "x")), makes)
                both[makes] += 1
        self.assertGreater(min(both.values()), 15)


class Widest(unittest.TestCase):

    def test_by_hand(self):
        for form, gap, free, widest in (
                ((), "x", "p", ("p",)),
                (("x",), "x", "p", ()),
                (("", "x"), "x", "p", ("",)),
                (("a", "x"), "x", "p", ("a",)),
                (("a", "ax"), "x", "p", ("a", "ap", "p")),
                (("ax",), "x", "p", ("ap", "p")),
                (("ax",), "x", "b", ("ab", "b")),
                (("ax",), "a", "z", ("xz", "z")),
                (("",), "x", "p", ("",)),
                ((), "c", "a", ("a",))):
            self.assertEqual(widest_of(form, gap, free), widest, (form, gap, free))

    def test_against_the_truths_by_all_rows(self):
        for form, gap in drawn_pairs(20):
            for free in LETTERS:
                if free == gap or free in letters_in(form):
                    continue
                widest = widest_of(form, gap, free)
                self.assertTrue(is_form(widest), (form, gap, free))
                self.assertTrue(letters_in(widest) <= (letters_in(form) | {free}) - {gap}, (form, gap, free))
                rows = all_rows("".join(sorted((letters_in(form) | {free}) - {gap})))
                low = fixed_truths(form, gap, False, rows)
                high = fixed_truths(form, gap, True, rows)
                self.assertEqual(truths_of(widest, rows),
                                 [least or (not most and row[free]) for least, most, row in zip(low, high, rows)])

    def test_a_free_letter_that_stands_in_the_form(self):
        for form, gap, free, widest in ((("a", "ax"), "x", "a", ("a",)), (("ax",), "x", "a", ()),
                                        (("p", "x"), "x", "p", ("p",)), (("", "p", "x"), "x", "p", ("", "p"))):
            self.assertEqual(widest_of(form, gap, free), widest)

    def looked_through(self, gap, others, free, puts):
        rows = all_rows(without(gap))
        turns = {True: 0, False: 0}
        for form in all_forms("".join(sorted(gap + others))):
            if rest_of(form, gap) != ():
                continue
            widest = widest_of(form, gap, free)
            for put in puts:
                comes = put_in(widest, {free: put})
                self.assertEqual(put_in(form, {gap: comes}), (), (form, gap, free, put))
                makes = put_in(form, {gap: put}) == ()
                self.assertEqual(comes == put, makes, (form, gap, free, put))
                turns[makes] += 1
            self.assertTrue(makes_never(form, gap, put_in(widest, {free: puts[-1]}), rows))
        self.assertGreater(min(turns.values()), 5)

    def test_what_comes_of_it_over_one_other_letter(self):
        for gap, other in itertools.permutations("abpx", 2):
            for free in "cqz":
                self.looked_through(gap, other, free, all_forms(other))

    def test_what_comes_of_it_over_two_other_letters(self):
        self.looked_through("x", "ab", "p", all_forms("ab"))
        self.looked_through("b", "ax", "c", all_forms("ax"))

    def test_what_comes_of_it_by_forms_with_other_letters(self):
        draws = chance(201)
        self.looked_through("x", "a", "p", all_forms("ap"))
        self.looked_through("y", "b", "q", all_forms("bcq")[::7])
        self.looked_through("x", "a", "p", [drawn_form(draws, without("x"), 64) for turn in range(12)] + all_forms("a"))

    def test_greater_forms(self):
        draws = chance(202)
        for turn in range(15):
            gap = draws.choice("abcxyz")
            free = draws.choice("pqr")
            others = "abcxyz".replace(gap, "")
            high = drawn_form(draws, others, draws.choice((1, 3, 32)))
            low = multiplied(drawn_form(draws, others, 32), opposite(high))
            form = added(multiplied(high, (gap,)), multiplied(low, opposite((gap,))))
            self.assertEqual(rest_of(form, gap), ())
            widest = widest_of(form, gap, free)
            for put in [drawn_form(draws, without(gap), 64) for other in range(3)]:
                comes = put_in(widest, {free: put})
                self.assertEqual(put_in(form, {gap: comes}), ())
                self.assertEqual(put_in(widest, {free: comes}), comes)


class Kept(unittest.TestCase):

    def test_asked_again_it_answers_the_same(self):
        for form, gap in drawn_pairs(2):
            again = tuple(list(form))
            self.assertEqual(rest_of(form, gap), rest_of(again, gap))
            self.assertEqual(least_of(form, gap), least_of(again, gap))
            self.assertEqual(greatest_of(form, gap), greatest_of(again, gap))
            for free in ("p", "q"):
                if free != gap:
                    self.assertEqual(widest_of(form, gap, free), widest_of(again, gap, free))

    def test_what_was_told_may_be_handed_in_again(self):
        draws = chance(21)
        form = put_in(drawn_form(draws, "abcxyz", 64), {"x": drawn_form(draws, LETTERS, 64)})
        for gap, free in itertools.permutations(LETTERS, 2):
            if free in "ar":
                widest = widest_of(form, gap, free)
                self.assertEqual(least_of(widest, gap), widest)
                self.assertEqual(rest_of(widest, gap), widest)


if __name__ == "__main__":
    unittest.main()
