import itertools
import unittest

from fillsay.errors import FillError, NoForm, NoSaying
from fillsay.forms import joined
from fillsay.sayings import Always, And, Either, Letter, Never, Not, Or
from fillsay.texts import form_read, form_text, read
from tests.helper import LETTERS, all_products, all_rows, chance, drawn_form, drawn_saying, full_form, is_form
from tests.helper import meant, small_forms, truths_of

SIGNS = [chr(code) for code in range(ord(" "), ord("~") + 1) if chr(code) != "%"]
FIELDS = {Always: (), Never: (), Letter: ("letter",), Not: ("one",),
          And: ("one", "other"), Or: ("one", "other"), Either: ("one", "other")}


def wrong_place(text):
    """The place that point 7 tells, None for a saying's text; from what point 5 writes is still due."""
    due = ["saying"]
    for place, sign in enumerate(text):
        wanted = due.pop() if due else "nothing"
        if wanted == "saying" and sign in "01" + LETTERS:
            continue
        if wanted == "saying" and sign in "~(":
            due.extend({"~": ["saying"], "(": [")", "saying", "between", "saying"]}[sign])
        elif sign not in {"between": "&|+", ")": ")"}.get(wanted, ""):
            return place
    return len(text) if due else None


def sayings_to_read():
    draws = chance(7)
    drawn = [drawn_saying(draws, "abcxy", draws.randint(1, 30)) for turn in range(150)]
    leaves = [Always(), Never()] + [Letter(letter) for letter in LETTERS]
    nots = [Not(one) for one in leaves]
    pairs = [kind(one, other) for kind in (And, Or, Either) for one in leaves[:4] for other in nots[1:5] + leaves[:4]]
    return leaves + nots + pairs + drawn


def nested(kind, size, left):
    """Pairs within pairs, all on the one side, of an odd number of parts."""
    told = Letter("x")
    while told.size() < size:
        told = kind(told, Letter("a")) if left else kind(Letter("b"), told)
    return told


def great_sayings():
    draws = chance(60)
    nots = Letter("a")
    for turn in range(59):
        nots = Not(nots)
    chains = [Not(nested(kind, 59, left)) for kind in (And, Or, Either) for left in (False, True)]
    return [nots] + chains + [drawn_saying(draws, LETTERS, 60) for turn in range(20)]


class Read(unittest.TestCase):

    def same_parts(self, one, other):
        self.assertIs(type(one), type(other))
        for field in FIELDS[type(one)]:
            if field == "letter":
                self.assertEqual(one.letter, other.letter)
            else:
                self.same_parts(getattr(one, field), getattr(other, field))

    def held(self, saying):
        text = saying.text()
        told = read(text)
        self.same_parts(told, saying)
        self.assertEqual((told.text(), told.size(), told.letters()), (text, saying.size(), saying.letters()))
        self.assertEqual(told.form(), saying.form())

    def test_each_kind_by_hand(self):
        a, b = Letter("a"), Letter("b")
        told = (
            ("1", Always()), ("0", Never()), ("a", a), ("~a", Not(a)), ("(a&b)", And(a, b)), ("(a|b)", Or(a, b)),
            ("(a+b)", Either(a, b)), ("~~1", Not(Not(Always()))), ("(~a&~b)", And(Not(a), Not(b))),
            ("~(a&b)", Not(And(a, b))), ("(~(a|b)+~~0)", Either(Not(Or(a, b)), Not(Not(Never())))),
            ("((a&b)|a)", Or(And(a, b), a)), ("(a&(b|a))", And(a, Or(b, a))),
        )
        for text, saying in told:
            self.same_parts(read(text), saying)
        for letter in LETTERS:
            self.same_parts(read(letter), Letter(letter))

    def test_sayings_of_several(self):
        for saying in sayings_to_read():
            self.held(saying)

    def test_true_by_the_same_rows(self):
        for saying in sayings_to_read():
            told = read(saying.text())
            for row in all_rows(told.letters()):
                self.assertIs(told.truth(row), meant(saying.text(), row), saying.text())

    def test_sixty_parts(self):
        for saying in great_sayings():
            self.assertEqual(saying.size(), 60)
            self.held(saying)
            for row in all_rows(saying.letters())[::5]:
                self.assertIs(read(saying.text()).truth(row), meant(saying.text(), row))

    def test_alike_just_where_the_forms_are_equal(self):
        rows = all_rows("abcxy")
        by_form = {}
        by_truths = {}
        for text in [saying.text() for saying in sayings_to_read() if set(saying.letters()) <= set("abcxy")]:
            told = read(text)
            truths = tuple(told.truth(row) for row in rows)
            self.assertEqual(truths_of(told.form(), rows), list(truths))
            self.assertEqual(by_form.setdefault(told.form(), truths), truths)
            self.assertEqual(by_truths.setdefault(truths, told.form()), told.form())
        self.assertGreater(len(by_form), 20)
        for one, other, alike in (("(a|x)", "~(~a&~x)", True), ("(a+a)", "0", True), ("~~b", "b", True),
                                  ("(a|x)", "(a+x)", False), ("(a&x)", "(a&y)", False), ("1", "a", False)):
            self.assertEqual(read(one).form() == read(other).form(), alike, (one, other))

    def test_asked_again_it_reads_the_same(self):
        for saying in sayings_to_read()[::9]:
            self.same_parts(read(saying.text()), read(saying.text()))

    def test_a_saying_spoilt_changes_nothing_that_is_read_after(self):
        spoilt = read("(a&~x)")
        spoilt.one = Never()
        spoilt.other.one = Always()
        self.assertEqual(read("(a&~x)").text(), "(a&~x)")


class Refused(unittest.TestCase):

    def refused(self, text, place):
        with self.assertRaises(NoSaying, msg=repr(text)) as taken:
            read(text)
        self.assertEqual(taken.exception.place, place, repr(text))
        self.assertIs(type(taken.exception.place), int)
        self.assertIsInstance(taken.exception, FillError)
        self.assertIsInstance(taken.exception, ValueError)

    def held(self, text):
        place = wrong_place(text)
        if place is None:
            self.assertEqual(read(text).text(), text)
        else:
            self.refused(text, place)

    def test_by_hand(self):
        told = (
            ("", 0), (" ", 0), ("d", 0), ("A", 0), ("2", 0), (")", 0), ("&", 0), ("+a", 0), ("=", 0),
            ("aa", 1), ("ab", 1), ("10", 1), ("a)", 1), ("a&b", 1), ("a~", 1), ("a(", 1), ("(a&b)c", 5),
            ("(a&b))", 5), ("~a&b", 2), ("(a&b)&c", 5), ("(a&b)~", 5),
            ("~", 1), ("~~", 2), ("(", 1), ("(a", 2), ("(a&", 3), ("(a&b", 4), ("((a&b)", 6), ("(~", 2),
            ("()", 1), ("(a)", 2), ("(a&)", 3), ("(&a)", 1), ("(a-b)", 2), ("(a=b)", 2), ("(a~b)", 2), ("(ab)", 2),
            ("(a&&b)", 3), ("(a&b&c)", 4), ("(a&bc)", 4), ("(a&d)", 3), ("((a)&b)", 3), ("~)", 1), ("~d", 1),
            ("(a(b", 2), ("((a&b)(", 6),
        )
        for text, place in told:
            self.refused(text, place)

    def test_a_blank_at_each_place(self):
        for text in ("a", "~b", "(a&b)", "(~(x|1)+~~(p&0))"):
            for place in range(len(text) + 1):
                self.refused(text[:place] + " " + text[place:], place)

    def test_each_place_at_which_a_text_may_end_too_early(self):
        for saying in sayings_to_read()[::4] + great_sayings()[::5]:
            text = saying.text()
            for place in range(len(text)):
                self.refused(text[:place], place)

    def test_each_sign_at_each_kind_of_place(self):
        for ahead, fitting in (("", "01~(" + LETTERS), ("~", "01~(" + LETTERS), ("(", "01~(" + LETTERS),
                               ("(a&", "01~(" + LETTERS), ("(~x", "&|+"), ("((a|b)", "&|+"), ("(a+b", ")"),
                               ("(a+(b&c)", ")"), ("a", ""), ("~1", ""), ("(x|0)", ""), ("~(a&(b+c))", "")):
            for sign in SIGNS:
                if sign in fitting:
                    self.held(ahead + sign)
                else:
                    self.refused(ahead + sign, len(ahead))
                    self.refused(ahead + sign + "a)", len(ahead))

    def test_all_short_texts(self):
        for size in range(6):
            for signs in itertools.product("a1~(&)| ", repeat=size):
                self.held("".join(signs))

    def test_texts_with_a_sign_put_in_left_out_or_changed(self):
        draws = chance(71)
        for saying in sayings_to_read()[::5]:
            text = saying.text()
            for turn in range(25):
                place = draws.randint(0, len(text))
                sign = draws.choice(SIGNS + list("01~(&|+)abxyz") * 6)
                self.held(text[:place] + sign + text[place:])
                self.held(text[:place] + text[place + 1:])
                self.held(text[:place] + sign + text[place + 1:])

    def test_two_hundred_signs(self):
        for text, place in (("(" * 200, 200), ("~" * 200, 200), ("~(" * 100, 200), ("(" * 199 + ")", 199),
                            ("(a&" * 66, 198), ("(" * 198 + "a)", 199), ("~" * 199 + " ", 199), (" " * 200, 0),
                            ("a" * 200, 1)):
            self.refused(text, place)


class FormTexts(unittest.TestCase):

    TOLD = (
        ((), "0"), (("",), "1"), (("a",), "a"), (("", "a"), "1+a"), (("", "a", "ax"), "1+a+ax"),
        (("", "a", "ab", "b"), "1+a+ab+b"), (("abcpqrxyz",), "abcpqrxyz"), (("az", "b", "pq"), "az+b+pq"),
        (("x",), "x"), (("ab", "b"), "ab+b"),
    )

    def forms(self):
        draws = chance(11)
        drawn = [drawn_form(draws, letters, 64) for letters in ("abc", "abxy", "cpqz", LETTERS) for turn in range(20)]
        return small_forms() + drawn + [full_form("abcxyz")]

    def test_by_hand(self):
        for form, text in self.TOLD:
            self.assertEqual(form_text(form), text)
            self.assertEqual(form_read(text), form)

    def test_there_and_back(self):
        texts = {}
        for form in self.forms():
            text = form_text(form)
            self.assertIsInstance(text, str)
            self.assertEqual(text, "+".join(product or "1" for product in form) or "0")
            told = form_read(text)
            self.assertEqual(told, form)
            self.assertTrue(is_form(told))
            self.assertEqual(form_text(told), text)
            self.assertEqual(texts.setdefault(text, form), form)

    def test_what_was_told_is_read_however_great(self):
        some = ()
        for letter in LETTERS:
            some = joined(some, (letter,))
        for form in (some, full_form(LETTERS)):
            self.assertGreater(len(form_text(form)), 2000)
            self.assertEqual(form_read(form_text(form)), form)

    def refused(self, text):
        with self.assertRaises(NoForm, msg=repr(text)) as taken:
            form_read(text)
        self.assertIsInstance(taken.exception, FillError)
        self.assertIsInstance(taken.exception, ValueError)

    def test_refused_by_hand(self):
        for text in ("", " ", "b+a", "x+1", "a+1+b", "a+a", "1+1", "0+0", "a+ax+ax", "ba", "aa", "xa+y", "abb", "d",
                     "A", "ad", "0+a", "a+0", "1+0", "0+1", "00", "11", "10", "01", "1a", "a1", "0a", "+", "+a", "a+",
                     "1+", "+1", "0+", "+0", "a++b", "1++a", " a", "a ", "a +b", "a+ b", "a b", "1 ", " 0", "2", "a-b",
                     "a|b", "(a+b)", "~a", "a&b", "b+ab", "ab+a", "1+a+ab+b+a", "p+c", "xyz+xy"):
            self.refused(text)

    def test_all_short_texts(self):
        written = {}
        for size in range(5):
            for some in itertools.combinations(sorted(all_products("ab")), size):
                written["+".join(product or "1" for product in some) or "0"] = some
        self.assertEqual(len(written), 16)
        found = 0
        for size in range(9):
            for signs in itertools.product("01ab+" if size < 6 else "1ab+", repeat=size):
                text = "".join(signs)
                if text in written:
                    self.assertEqual(form_read(text), written[text])
                    found += 1
                else:
                    self.refused(text)
        self.assertEqual(found, 16)

    def test_each_sign_behind_and_ahead(self):
        for sign in SIGNS:
            if sign not in LETTERS + "01":
                self.refused(sign)
            if sign not in "bcpqrxyz":
                self.refused("a" + sign)
                self.refused("1+a" + sign + "+x")
            self.refused(sign + "a")
            self.refused("b+" + sign + "+ab")


if __name__ == "__main__":
    unittest.main()
