import unittest

from fillsay.forms import letters_of, worth
from fillsay.sayings import Always, And, Either, Letter, Never, Not, Or, Saying
from tests.helper import LETTERS, all_rows, chance, drawn_saying, is_form, meant, truths_of

SEVEN = (Always, Never, Letter, Not, And, Or, Either)
A, B, C = Letter("a"), Letter("b"), Letter("c")
X, Y, P = Letter("x"), Letter("y"), Letter("p")


def chain(kind, letters):
    told = Letter(letters[0])
    for letter in letters[1:]:
        told = kind(told, Letter(letter))
    return told


def small_sayings():
    leaves = [Always(), Never(), A, X]
    nots = [Not(one) for one in leaves]
    pairs = [kind(one, other) for kind in (And, Or, Either) for one in leaves for other in leaves]
    return leaves + nots + pairs


def several():
    first = small_sayings()
    mixed = [kind(one, other) for kind in (And, Or, Either) for one in first[::3] for other in first[::4]]
    draws = chance(5)
    drawn = [drawn_saying(draws, "abcxy", draws.randint(1, 25)) for turn in range(120)]
    return first + mixed + drawn


class Kinds(unittest.TestCase):

    def test_all_stand_under_saying_and_none_under_another(self):
        for kind in SEVEN:
            self.assertTrue(issubclass(kind, Saying))
            for other in SEVEN:
                self.assertEqual(issubclass(kind, other), kind == other)

    def test_fields(self):
        for letter in LETTERS:
            self.assertEqual(Letter(letter).letter, letter)
        self.assertIs(Not(A).one, A)
        for kind in (And, Or, Either):
            made = kind(A, X)
            self.assertIs(made.one, A)
            self.assertIs(made.other, X)


class Written(unittest.TestCase):

    TOLD = (
        (Always(), "1", 1, ""),
        (Never(), "0", 1, ""),
        (A, "a", 1, "a"),
        (Letter("z"), "z", 1, "z"),
        (Not(A), "~a", 2, "a"),
        (And(A, B), "(a&b)", 3, "ab"),
        (Or(A, B), "(a|b)", 3, "ab"),
        (Either(A, B), "(a+b)", 3, "ab"),
        (Not(Not(X)), "~~x", 3, "x"),
        (Not(Always()), "~1", 2, ""),
        (And(X, A), "(x&a)", 3, "ax"),
        (And(A, A), "(a&a)", 3, "a"),
        (Or(Not(A), Never()), "(~a|0)", 4, "a"),
        (Not(Or(A, X)), "~(a|x)", 4, "ax"),
        (Either(And(Y, P), Or(A, Not(Y))), "((y&p)+(a|~y))", 8, "apy"),
        (And(Or(C, And(B, A)), Not(Either(A, C))), "((c|(b&a))&~(a+c))", 10, "abc"),
        (Either(Always(), Never()), "(1+0)", 3, ""),
    )

    def test_text_size_and_letters(self):
        for saying, text, size, letters in self.TOLD:
            with self.subTest(text):
                self.assertEqual(saying.text(), text)
                self.assertEqual(saying.size(), size)
                self.assertIs(type(saying.size()), int)
                self.assertEqual(saying.letters(), letters)

    def test_a_part_that_stands_several_times_counts_each_time(self):
        part = Or(A, X)
        self.assertEqual(And(part, part).size(), 7)
        self.assertEqual(And(part, part).text(), "((a|x)&(a|x))")
        self.assertEqual(And(part, part).letters(), "ax")

    def test_all_nine_letters_rise(self):
        for kind in (And, Or, Either):
            told = chain(kind, "zyxrqpcbazyx")
            self.assertEqual(told.letters(), LETTERS)
            self.assertEqual(told.size(), 23)

    def test_sixty_parts(self):
        nots = A
        for turn in range(59):
            nots = Not(nots)
        self.assertEqual(nots.size(), 60)
        self.assertEqual(nots.text(), "~" * 59 + "a")
        self.assertEqual(nots.letters(), "a")
        draws = chance(60)
        for turn in range(10):
            drawn = drawn_saying(draws, LETTERS, 60)
            self.assertEqual(drawn.size(), 60)
            signs = [sign for sign in drawn.text() if sign not in "()"]
            self.assertEqual(len(signs), 60)
            self.assertEqual(drawn.letters(), "".join(sorted(set(signs) & set(LETTERS))))

    def test_asked_again_it_answers_the_same(self):
        for saying in several()[::7]:
            again = (saying.text(), saying.size(), saying.letters(), saying.form())
            self.assertEqual((saying.text(), saying.size(), saying.letters(), saying.form()), again)


class Truths(unittest.TestCase):

    def test_each_kind(self):
        for one in (False, True):
            row = {"a": one}
            self.assertIs(Always().truth(row), True)
            self.assertIs(Never().truth(row), False)
            self.assertIs(A.truth(row), one)
            self.assertIs(Not(A).truth(row), not one)
            for other in (False, True):
                row = {"a": one, "b": other}
                self.assertIs(And(A, B).truth(row), one and other)
                self.assertIs(Or(A, B).truth(row), one or other)
                self.assertIs(Either(A, B).truth(row), one != other)

    def test_without_letters_by_the_row_without_any(self):
        self.assertIs(Always().truth({}), True)
        self.assertIs(Never().truth({}), False)
        self.assertIs(Either(Always(), Not(Never())).truth({}), False)

    def test_by_all_rows(self):
        for saying in several():
            for row in all_rows(saying.letters()):
                self.assertIs(saying.truth(row), meant(saying.text(), row), saying.text())

    def test_other_letters_beside(self):
        for saying in several()[::5]:
            for row in all_rows(saying.letters()):
                alone = saying.truth(row)
                for beside in (False, True):
                    wider = {**dict.fromkeys(LETTERS, beside), **row}
                    self.assertIs(saying.truth(wider), alone)

    def test_the_row_handed_in_stays(self):
        row = {"x": True, "a": False, "q": True}
        And(Or(A, X), Either(X, Not(A))).truth(row)
        self.assertEqual(list(row.items()), [("x", True), ("a", False), ("q", True)])

    def test_sixty_parts_and_nine_letters(self):
        draws = chance(9)
        drawn = drawn_saying(draws, LETTERS, 60)
        for row in all_rows(LETTERS):
            self.assertIs(drawn.truth(row), meant(drawn.text(), row))


class Forms(unittest.TestCase):

    def held(self, saying):
        form = saying.form()
        self.assertTrue(is_form(form), saying.text())
        rows = all_rows(saying.letters())
        self.assertTrue(set(letters_of(form)) <= set(saying.letters()))
        self.assertEqual(truths_of(form, rows), [saying.truth(row) for row in rows], saying.text())

    def test_each_kind(self):
        self.assertEqual(Always().form(), ("",))
        self.assertEqual(Never().form(), ())
        self.assertEqual(A.form(), ("a",))
        self.assertEqual(Not(A).form(), ("", "a"))
        self.assertEqual(And(A, B).form(), ("ab",))
        self.assertEqual(And(X, A).form(), ("ax",))
        self.assertEqual(Or(A, B).form(), ("a", "ab", "b"))
        self.assertEqual(Either(A, B).form(), ("a", "b"))
        self.assertEqual(Not(Or(A, B)).form(), ("", "a", "ab", "b"))

    def test_true_by_the_same_rows(self):
        for saying in several():
            self.held(saying)

    def test_alike_just_where_the_forms_are_equal(self):
        by_form = {}
        by_truths = {}
        rows = all_rows("abcxy")
        for saying in several():
            form = saying.form()
            truths = tuple(saying.truth(row) for row in rows)
            self.assertEqual(by_form.setdefault(form, truths), truths)
            self.assertEqual(by_truths.setdefault(truths, form), form)
        self.assertGreater(len(by_form), 20)

    def test_alike_ones(self):
        alike = (
            (Not(Not(A)), A),
            (And(A, A), A),
            (Or(A, A), A),
            (Or(A, B), Either(Either(A, B), And(A, B))),
            (And(A, Either(B, X)), Either(And(A, B), And(A, X))),
            (Or(A, B), Not(And(Not(A), Not(B)))),
            (And(A, B), Not(Or(Not(A), Not(B)))),
            (Either(A, A), Never()),
            (Either(A, Always()), Not(A)),
            (Or(A, Not(A)), Always()),
            (And(A, Not(A)), Never()),
            (And(A, B), And(B, A)),
            (Or(Or(A, B), X), Or(A, Or(B, X))),
            (Or(And(A, X), And(A, Not(X))), A),
        )
        for one, other in alike:
            self.assertEqual(one.form(), other.form(), (one.text(), other.text()))

    def test_unlike_ones(self):
        unlike = (
            (A, B),
            (A, Not(A)),
            (Always(), Never()),
            (Or(A, B), Either(A, B)),
            (Or(A, B), And(A, B)),
            (And(A, B), A),
            (Or(A, And(B, X)), And(Or(A, B), X)),
            (Not(Or(A, B)), Or(Not(A), Not(B))),
        )
        for one, other in unlike:
            self.assertNotEqual(one.form(), other.form(), (one.text(), other.text()))

    def test_sixty_parts(self):
        nots = A
        for turn in range(59):
            nots = Not(nots)
        self.assertEqual(nots.form(), ("", "a"))
        draws = chance(61)
        for letters in ("ax", "abcxyz", LETTERS, LETTERS):
            self.held(drawn_saying(draws, letters, 60))

    def test_all_nine_letters(self):
        self.assertEqual(chain(And, "zyxrqpcba").form(), (LETTERS,))
        self.assertEqual(chain(Either, "zyxrqpcba").form(), tuple(LETTERS))
        self.assertEqual(len(chain(Or, LETTERS).form()), 511)
        self.held(chain(Or, LETTERS))
        self.held(Or(And(chain(Or, LETTERS), chain(Either, LETTERS)), chain(And, LETTERS)))

    def test_the_form_is_worth_the_truth(self):
        for saying in several()[::6]:
            for row in all_rows("abcxy"):
                self.assertIs(worth(saying.form(), row), saying.truth(row))


if __name__ == "__main__":
    unittest.main()
