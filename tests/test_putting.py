import itertools
import unittest

from fillsay.forms import added, form_of, joined, letters_of, opposite
from fillsay.putting import every_of, fixed_at, put_in, some_of
from tests.helper import LETTERS, all_products, all_rows, chance, drawn_form, full_form, is_form, small_forms
from tests.helper import true_by, truths_of


def letters_anywhere(form, forms):
    standing = "".join(letters_of(put) for put in forms.values())
    return "".join(sorted(set(letters_of(form) + "".join(forms) + standing)))


def some_puts():
    """Forms, each with a dict of forms to be put: ordinary ones and the edges."""
    draws = chance(12)
    puts = []
    for form in small_forms():
        for forms in ({}, {"a": ()}, {"a": ("",)}, {"x": ()}, {"x": ("",)}, {"a": (), "x": ("",)}, {"a": ("a",)},
                      {"a": ("x",), "x": ("a",)}, {"a": ("x",)}, {"a": ("", "a")}, {"q": ("a", "x")}, {"b": ()},
                      {"a": ("b", "bx"), "x": ("", "a")}, {"a": ("ax",), "x": ("a", "ax", "x"), "z": ("",)}):
            puts.append((form, forms))
    for turn in range(60):
        named = draws.sample("abcpxyz", draws.randint(0, 4))
        puts.append((drawn_form(draws, "abxy", 16), {letter: drawn_form(draws, "acpx", 8) for letter in named}))
    for turn in range(6):
        puts.append((drawn_form(draws, LETTERS, 64), {letter: drawn_form(draws, LETTERS, 6) for letter in "axyr"}))
    return puts


class PutIn(unittest.TestCase):

    def held(self, form, forms):
        told = put_in(form, forms)
        self.assertTrue(is_form(told), (form, forms, told))
        rows = all_rows(letters_anywhere(form, forms))
        meant_rows = [{**row, **{letter: true_by(put, row) for letter, put in forms.items()}} for row in rows]
        self.assertEqual(truths_of(told, rows), truths_of(form, meant_rows), (form, forms))
        self.assertTrue(set(letters_of(told)) <= set(letters_anywhere(form, forms)))
        self.assertEqual(put_in(tuple(form), dict(forms)), told)

    def test_against_the_truths_by_all_rows(self):
        for form, forms in some_puts():
            self.held(form, forms)

    def test_all_at_once(self):
        self.assertEqual(put_in(("x",), {"x": ("y",), "y": ("x",)}), ("y",))
        self.assertEqual(put_in(("ax", "y"), {"x": ("y",), "y": ("x",)}), ("ay", "x"))
        self.assertEqual(put_in(("ax", "y"), {"y": ("x",), "x": ("y",)}), ("ay", "x"))
        self.assertEqual(put_in(("xy",), {"x": ("y",), "y": ("z",)}), ("yz",))
        self.assertEqual(put_in(("", "x", "yz"), {"x": ("y",), "y": ("z",), "z": ("x",)}), ("", "xz", "y"))
        self.assertEqual(put_in(("x",), {"x": ("", "x")}), ("", "x"))

    def test_by_hand(self):
        self.assertEqual(put_in(("x",), {"x": ("a", "b")}), ("a", "b"))
        self.assertEqual(put_in(("ax",), {"x": ("", "a")}), ())
        self.assertEqual(put_in(("x", "y"), {"x": ("a",), "y": ("a",)}), ())
        self.assertEqual(put_in(("xy",), {"x": ("a",), "y": ("a",)}), ("a",))
        self.assertEqual(put_in(("b", "x"), {"x": ("b",)}), ())
        self.assertEqual(put_in(("a",), {"a": ("abcpqrxyz",)}), ("abcpqrxyz",))

    def test_nothing_is_put(self):
        for form in small_forms() + [full_form("abcxyz")]:
            self.assertEqual(put_in(form, {}), form)
            self.assertEqual(put_in(form, {letter: (letter,) for letter in LETTERS}), form)
            self.assertEqual(put_in(form, {"p": ("a",), "q": (), "r": ("",)}), form)

    def test_never_and_always_are_put(self):
        self.assertEqual(put_in(("", "ax", "x"), {"x": ()}), ("",))
        self.assertEqual(put_in(("", "ax", "x"), {"x": ("",)}), ("a",))
        self.assertEqual(put_in(("ax", "y"), {"a": ("",), "x": ("",), "y": ()}), ("",))
        self.assertEqual(put_in((), {"x": ("",)}), ())
        self.assertEqual(put_in(("",), {"x": ()}), ("",))

    def test_sixty_four_products_and_all_nine_letters(self):
        draws = chance(64)
        wide = tuple(sorted(draws.sample(all_products(LETTERS), 64)))
        self.held(full_form("abcxyz"), {"x": wide, "a": full_form("abcpqr"), "z": ("q",)})
        self.held(wide, {letter: drawn_form(draws, LETTERS, 64) for letter in LETTERS})

    def test_what_was_told_may_be_handed_in_however_great(self):
        some = ()
        for letter in LETTERS:
            some = joined(some, (letter,))
        self.assertEqual(put_in(some, {letter: some for letter in LETTERS}), some)
        self.assertEqual(put_in(some, {letter: opposite(some) for letter in LETTERS}), opposite(some))
        self.assertEqual(put_in(some, {letter: () for letter in LETTERS}), ())
        turned = put_in(some, {letter: ("", letter) for letter in LETTERS})
        self.assertEqual(turned, ("", LETTERS))
        self.assertEqual(put_in(turned, {letter: ("", letter) for letter in LETTERS}), some)

    def test_what_is_handed_in_stays(self):
        for form, forms in some_puts()[::11]:
            kept = list(forms.items())
            told = put_in(form, forms)
            self.assertEqual(list(forms.items()), kept)
            forms.clear()
            forms["x"] = ("", "b")
            self.assertEqual(put_in(form, dict(kept)), told)


class FixedAt(unittest.TestCase):

    def test_by_hand(self):
        self.assertEqual(fixed_at(("", "ax", "x"), "x", True), ("a",))
        self.assertEqual(fixed_at(("", "ax", "x"), "x", False), ("",))
        self.assertEqual(fixed_at(("a", "b"), "a", True), ("", "b"))
        self.assertEqual(fixed_at(("a", "b"), "a", False), ("b",))
        self.assertEqual(fixed_at(("a", "ab", "b"), "b", True), ("",))
        for truth in (False, True):
            self.assertEqual(fixed_at((), "a", truth), ())
            self.assertEqual(fixed_at(("",), "r", truth), ("",))
            self.assertEqual(fixed_at(("ab", "x"), "q", truth), ("ab", "x"))

    def test_against_the_truths_by_all_rows(self):
        draws = chance(13)
        for form in small_forms() + [drawn_form(draws, "acpyz", 32) for turn in range(20)] + [full_form("abcxyz")]:
            rows = all_rows("".join(sorted(set(letters_of(form)) | set("axz"))))
            for letter in "axz" + letters_of(form) + "q":
                for truth in (False, True):
                    told = fixed_at(form, letter, truth)
                    self.assertTrue(is_form(told))
                    self.assertNotIn(letter, letters_of(told))
                    wished = truths_of(form, [{**row, letter: truth} for row in rows])
                    self.assertEqual(truths_of(told, [{**row, letter: not truth} for row in rows]), wished)


class TakenOut(unittest.TestCase):

    RULES = ((some_of, any), (every_of, all))

    def held(self, form, letters):
        rows = all_rows("".join(sorted(set(letters_of(form)) | set(letters))))
        for function, rule in self.RULES:
            told = function(form, letters)
            self.assertTrue(is_form(told), (form, letters, told))
            self.assertEqual(set(letters_of(told)) & set(letters), set())
            self.assertTrue(set(letters_of(told)) <= set(letters_of(form)))
            for row in rows[::1 if len(rows) < 100 else 17]:
                fixed = truths_of(form, [{**row, **other} for other in all_rows(letters)])
                self.assertIs(true_by(told, row), rule(fixed), (function, form, letters, row))
            self.assertEqual(function(tuple(form), letters), told)

    def test_by_hand(self):
        self.assertEqual(some_of(("ax",), "x"), ("a",))
        self.assertEqual(every_of(("ax",), "x"), ())
        self.assertEqual(some_of(("a", "x"), "x"), ("",))
        self.assertEqual(every_of(("a", "x"), "x"), ())
        self.assertEqual(some_of(("a", "ax", "x"), "x"), ("",))
        self.assertEqual(every_of(("a", "ax", "x"), "x"), ("a",))
        self.assertEqual(some_of(("abx", "ay"), "xy"), ("a",))
        self.assertEqual(every_of(("", "abx"), "bx"), ("", "a"))

    def test_none_are_taken_out(self):
        for form in small_forms() + [full_form("abcxyz")]:
            self.assertEqual(some_of(form, ""), form)
            self.assertEqual(every_of(form, ""), form)

    def test_letters_that_do_not_stand_in_the_form(self):
        for form in small_forms():
            for letters in ("b", "q", "bcz", "pqr"):
                self.assertEqual(some_of(form, letters), form)
                self.assertEqual(every_of(form, letters), form)

    def test_against_the_truths_by_all_rows(self):
        draws = chance(14)
        drawn = [drawn_form(draws, "abxyz", 32) for turn in range(25)]
        for form in small_forms() + drawn + [full_form("abcxyz"), full_form("abcxyz")[1:]]:
            for letters in ("", "a", "x", "y", "ax", "bz", "pq", "axy", "acqz", "abcxyz"):
                self.held(form, letters)

    def test_all_letters_are_taken_out(self):
        draws = chance(15)
        for form in small_forms() + [drawn_form(draws, "bcpx", 16) for turn in range(20)]:
            letters = letters_of(form)
            self.assertEqual(some_of(form, letters), () if form == () else ("",))
            self.assertEqual(every_of(form, letters), ("",) if form == ("",) else ())

    def test_in_whatever_order_the_same(self):
        draws = chance(16)
        for form in [drawn_form(draws, "abxyz", 32) for turn in range(12)]:
            for letters in ("ax", "bxz", "aqy"):
                for function, rule in self.RULES:
                    whole = function(form, letters)
                    for order in itertools.permutations(letters):
                        told = form
                        for letter in order:
                            told = function(told, letter)
                        self.assertEqual(told, whole)
                        self.assertEqual(function(form, "".join(order)), whole)

    def test_some_and_every_against_one_another(self):
        draws = chance(17)
        for form in [drawn_form(draws, "abxyz", 32) for turn in range(25)]:
            self.assertEqual(some_of(opposite(form), "xy"), opposite(every_of(form, "xy")))

    def test_sixty_four_products_over_nine_letters(self):
        draws = chance(18)
        wide = tuple(sorted(draws.sample(all_products(LETTERS), 64)))
        for letters in ("", "c", "px", "abxyz", LETTERS):
            self.held(wide, letters)

    def test_what_was_told_may_be_handed_in_however_great(self):
        some = ()
        for letter in LETTERS:
            some = joined(some, (letter,))
        self.assertEqual(every_of(some, "xyz"), form_of("abcpqr", [False] + [True] * 63))
        self.assertEqual(some_of(some, "a"), ("",))
        self.assertEqual(some_of(added(some, ("",)), "abc"), opposite(every_of(some, "abc")))


if __name__ == "__main__":
    unittest.main()
