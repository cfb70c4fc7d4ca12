import itertools
import unittest

from fillsay.desk import Desk
from fillsay.errors import FillError, NoFilling, NoLetters, NoLine, NoNumber, NoSaying, NothingDone, NoWish, Strange
from fillsay.errors import TooMany
from fillsay.papers import stands
from fillsay.texts import form_read
from fillsay.wishes import Task
from tests.helper import GAP_ROWS, GIVEN_ROWS, LETTERS, all_rows, chance, drawn_saying, drawn_tasks, drawn_wish, fails
from tests.helper import form_by, meant, meant_to_do, row_at, sides_of, truths_of

ASKING = ("wishes", "fault", "count", "widest", "filling 0", "gap x", "gap y", "gap z", "leads a to (a|b)",
          "leads 1 to 0")
THIRTY = "1" + "0" * 29


def desk_told(*lines):
    desk = Desk()
    for line in lines:
        desk.told(line)
    return desk


def desk_of(givens, gaps, wishes):
    return desk_told("letters " + (givens or "-") + " " + (gaps or "-"), *["wish " + wish for wish in wishes])


def text_of(form):
    """A form's text, as point 11 tells."""
    return "+".join(product or "1" for product in form) or "0"


def written(wish):
    return " = ".join(sides_of(wish))


def answered(desk, line):
    """What the desk answers, or the refusal with its fields."""
    try:
        return desk.told(line)
    except FillError as error:
        return (type(error), vars(error))


def looks(desk):
    """All that can be asked of a desk."""
    return [answered(desk, line) for line in ASKING]


def taken_back(desk):
    """What a desk looks like again and again, while all is taken back; the desk is spent by it."""
    told = [looks(desk)]
    while answered(desk, "back") != (NothingDone, {}):
        told.append(looks(desk))
    return told


class Case(unittest.TestCase):

    def refused(self, desk, line, kind, **fields):
        with self.assertRaises(kind, msg=line) as caught:
            desk.told(line)
        self.assertIs(type(caught.exception), kind, line)
        for name, value in fields.items():
            self.assertEqual(getattr(caught.exception, name), value, line)

    def answers(self, desk, line, texts):
        told = desk.told(line)
        self.assertIsInstance(told, list)
        self.assertEqual(told, texts, line)
        self.assertTrue(all(type(text) is str for text in told), line)


class Changing(Case):

    def test_a_new_desk(self):
        for line, texts in (("wishes", []), ("fault", ["0"]), ("count", ["1"]), ("widest", []), ("filling 0", [])):
            self.answers(Desk(), line, texts)
        self.refused(Desk(), "back", NothingDone)
        self.refused(Desk(), "gap x", Strange, letter="x")
        self.refused(Desk(), "filling 1", NoNumber)
        self.refused(Desk(), "wish a = 1", Strange, letter="a")
        self.refused(Desk(), "wish x = 1", Strange, letter="x")
        self.answers(Desk(), "wish 1 = 1", ["1"])

    def test_letters(self):
        for givens, gaps in itertools.product(GIVEN_ROWS, GAP_ROWS):
            desk = Desk()
            self.answers(desk, "letters " + (givens or "-") + " " + (gaps or "-"), ["0"])
            self.answers(desk, "count", [str((2 ** len(gaps)) ** (2 ** len(givens)))])
            for gap in "xyz":
                if gap not in gaps:
                    self.refused(desk, "gap " + gap, Strange, letter=gap)
                    self.refused(desk, "wish " + gap + " = 1", Strange, letter=gap)
            for given in "abc":
                if given not in givens:
                    self.refused(desk, "wish 1 = " + given, Strange, letter=given)
            for number, letter in enumerate(givens + gaps):
                self.answers(desk, "wish " + letter + " = " + letter, [str(number + 1)])

    def test_letters_drop_the_wishes(self):
        desk = desk_told("letters ab x", "wish x = a", "wish (x&b) = b")
        self.answers(desk, "wishes", ["x = a", "(x&b) = b"])
        self.answers(desk, "letters ab x", ["0"])
        self.answers(desk, "wishes", [])
        self.answers(desk, "fault", ["0"])
        self.answers(desk, "count", ["16"])
        self.answers(desk, "wish x = b", ["1"])
        self.answers(desk, "letters - -", ["0"])
        self.answers(desk, "wishes", [])
        self.answers(desk, "count", ["1"])

    def test_wish(self):
        desk = desk_told("letters abc xyz")
        for number, (text, wish) in enumerate((
                ("x = a", "x = a"), ("x=a", "x = a"), (" x = a", "x = a"), ("x = a ", "x = a"),
                ("   ~(y&b)   =   (z+1)   ", "~(y&b) = (z+1)"), ("(a|(b|c))=0", "(a|(b|c)) = 0"))):
            self.answers(desk, "wish " + text, [str(number + 1)])
            self.assertEqual(desk.told("wishes")[-1], wish)
        self.assertEqual(len(desk.told("wishes")), 6)

    def test_wish_behind_the_others(self):
        desk = desk_told("letters a x")
        wishes = []
        for wish in ("x = a", "0 = (x+a)", "x = a", "1 = 1", "~x = ~a", "a = x"):
            self.answers(desk, "wish " + wish, [str(len(wishes) + 1)])
            wishes.append(wish)
            self.answers(desk, "wishes", wishes)

    def test_back_behind_wish(self):
        desk = desk_told("letters a x", "wish x = a", "wish x = ~a")
        self.answers(desk, "count", ["0"])
        self.answers(desk, "back", ["1"])
        self.answers(desk, "wishes", ["x = a"])
        self.answers(desk, "count", ["1"])
        self.answers(desk, "wish 1 = x", ["2"])
        self.answers(desk, "wishes", ["x = a", "1 = x"])
        self.answers(desk, "back", ["1"])
        self.answers(desk, "back", ["0"])
        self.answers(desk, "count", ["4"])
        self.answers(desk, "back", ["0"])
        self.answers(desk, "count", ["1"])
        self.refused(desk, "gap x", Strange, letter="x")
        self.refused(desk, "back", NothingDone)

    def test_back_behind_letters(self):
        desk = desk_told("letters a x", "wish x = a", "wish 1 = 1", "letters ab y", "letters - xyz", "wish x = 1")
        self.answers(desk, "back", ["0"])
        self.answers(desk, "count", ["8"])
        self.answers(desk, "back", ["0"])
        self.answers(desk, "count", ["16"])
        self.answers(desk, "back", ["2"])
        self.answers(desk, "wishes", ["x = a", "1 = 1"])
        self.answers(desk, "gap x", ["same a"])
        self.answers(desk, "back", ["1"])
        self.answers(desk, "back", ["0"])
        self.answers(desk, "back", ["0"])
        for turn in range(3):
            self.refused(desk, "back", NothingDone)
        self.answers(desk, "letters a x", ["0"])
        self.answers(desk, "back", ["0"])
        self.refused(desk, "back", NothingDone)

    def test_letters_that_change_nothing_are_taken_back_too(self):
        desk = desk_told("letters - -", "letters - -", "letters - -")
        for turn in range(3):
            self.answers(desk, "back", ["0"])
        self.refused(desk, "back", NothingDone)

    def test_back_after_many(self):
        lines = []
        for turn in range(60):
            lines += ["letters abc xyz"] + ["wish x = y"] * (turn % 7)
        desk = Desk()
        numbers = [desk.told(line)[0] for line in lines]
        for number in numbers[-2::-1] + ["0"]:
            self.answers(desk, "back", [number])
        self.refused(desk, "back", NothingDone)


class Asking(Case):

    def test_wishes_and_fault(self):
        for givens, gaps, wishes in drawn_tasks(291, 2):
            desk = desk_of(givens, gaps, wishes)
            self.answers(desk, "wishes", [written(wish) for wish in wishes])
            letters = givens + gaps
            fault = form_by(letters, [fails(wishes, row) for row in all_rows(letters)])
            self.answers(desk, "fault", [text_of(fault)])

    def test_count(self):
        for givens, gaps, wishes in drawn_tasks(292, 2):
            number = 1
            for there in meant_to_do(givens, gaps, wishes):
                number *= len(there)
            self.answers(desk_of(givens, gaps, wishes), "count", [str(number)])
        self.answers(desk_told("letters abc xyz"), "count", ["16777216"])

    def test_widest(self):
        kinds = {"filled": 0, "none": 0}
        for givens, gaps, wishes in drawn_tasks(293, 4):
            told = desk_of(givens, gaps, wishes).told("widest")
            doing = meant_to_do(givens, gaps, wishes)
            if [] in doing:
                form = form_by(givens, [there == [] for there in doing])
                self.assertEqual(told, ["none " + text_of(form)])
                kinds["none"] += 1
            else:
                self.assertEqual([text[:4] for text in told], [gap + " = " for gap in gaps])
                filling = [form_read(text[4:]) for text in told]
                self.assertTrue(stands(Task(givens, gaps, wishes), ("filled", filling)))
                kinds["filled"] += 1
        self.assertGreater(min(kinds.values()), 60)

    def test_widest_by_hand(self):
        self.answers(desk_told("letters abc xyz"), "widest", ["x = p", "y = q", "z = r"])
        self.answers(desk_told("letters - xz", "wish x = 1", "wish z = 0"), "widest", ["x = 1", "z = 0"])
        self.answers(desk_told("letters a -"), "widest", [])
        self.answers(desk_told("letters a -", "wish a = a"), "widest", [])
        self.answers(desk_told("letters a -", "wish a = 1"), "widest", ["none 1+a"])
        self.answers(desk_told("letters ab xy", "wish (x&y) = 1", "wish (x+y) = (a&b)"), "widest", ["none ab"])
        self.answers(desk_told("wish 1 = 0"), "widest", ["none 1"])
        self.answers(desk_told("letters ab x", "wish (x&a) = (a&b)"), "widest", ["x = ab+ap+p"])

    def test_filling(self):
        draws = chance(294)
        for givens, gaps, wishes in drawn_tasks(295, 2):
            desk = desk_of(givens, gaps, wishes)
            doing = meant_to_do(givens, gaps, wishes)
            count = 1
            for there in doing:
                count *= len(there)
            self.refused(desk, "filling " + str(count), NoNumber)
            self.refused(desk, "filling " + THIRTY, NoNumber)
            if count == 0:
                continue
            for number in (0, count - 1, draws.randrange(count)):
                rows = []
                rest = number
                for there in doing[::-1]:
                    rows = [row_at(gaps, there[rest % len(there)])] + rows
                    rest //= len(there)
                forms = [form_by(givens, [row[gap] for row in rows]) for gap in gaps]
                self.answers(desk, "filling " + str(number),
                             [gap + " = " + text_of(form) for gap, form in zip(gaps, forms)])

    def test_filling_by_hand(self):
        desk = desk_told("letters a xy", "wish (x&y) = 0")
        self.answers(desk, "filling 0", ["x = 0", "y = 0"])
        self.answers(desk, "filling 1", ["x = 0", "y = a"])
        self.answers(desk, "filling 3", ["x = 0", "y = 1+a"])
        self.answers(desk, "filling 8", ["x = 1", "y = 0"])
        self.refused(desk, "filling 9", NoNumber)
        self.refused(desk, "filling 10", NoNumber)
        self.refused(desk, "filling " + "9" * 30, NoNumber)
        self.answers(desk_told("letters abc xyz"), "filling 16777215", ["x = 1", "y = 1", "z = 1"])
        self.refused(desk_told("letters abc xyz"), "filling 16777216", NoNumber)
        self.answers(desk_told("letters a -"), "filling 0", [])
        self.refused(desk_told("letters a -", "wish a = 1"), "filling 0", NoNumber)

    def test_gap(self):
        kinds = {"same": 0, "apart": 0, "none": 0}
        for givens, gaps, wishes in drawn_tasks(296, 4):
            desk = desk_of(givens, gaps, wishes)
            doing = meant_to_do(givens, gaps, wishes)
            for gap in gaps:
                truths = [{row_at(gaps, row)[gap] for row in there} for there in doing]
                if [] in doing:
                    self.refused(desk, "gap " + gap, NoFilling)
                    kinds["none"] += 1
                elif all(len(there) == 1 for there in truths):
                    form = form_by(givens, [True in there for there in truths])
                    self.answers(desk, "gap " + gap, ["same " + text_of(form)])
                    kinds["same"] += 1
                else:
                    self.answers(desk, "gap " + gap, ["apart"])
                    kinds["apart"] += 1
        self.assertGreater(min(kinds.values()), 20)

    def test_gap_by_hand(self):
        desk = desk_told("letters ab xyz", "wish x = (a|b)", "wish y = 0")
        self.answers(desk, "gap x", ["same a+ab+b"])
        self.answers(desk, "gap y", ["same 0"])
        self.answers(desk, "gap z", ["apart"])
        desk.told("wish z = 1")
        self.answers(desk, "gap z", ["same 1"])
        desk.told("wish x = y")
        for gap in "xyz":
            self.refused(desk, "gap " + gap, NoFilling)

    def test_gaps_that_are_none(self):
        words = ("a", "b", "p", "xy", "yz", "xyz", "zyx", "X", "-", "0", "x=a", "gap", "to", "~x", "(", "x" * 190)
        for lines in ((), ("letters a xy",), ("letters a xy", "wish x = y"), ("letters ab x", "wish a = b")):
            desk = desk_told(*lines)
            for word in words + ("z",):
                self.refused(desk, "gap " + word, Strange, letter=word)

    def test_leads_by_hand(self):
        desk = desk_told("letters a x", "wish 1 = 0")
        for line, text in (("leads 0 to 0", "yes 0 0"), ("leads 0 to 1", "yes 0 1"), ("leads 1 to 1", "yes 1 1"),
                           ("leads 1 to 0", "no"), ("leads a to a", "yes a a"), ("leads a to b", "no"),
                           ("leads (a&b) to (b|c)", "yes b b"), ("leads (p&q) to (p|q)", "yes pq p+pq+q"),
                           ("leads (a&~a) to z", "yes 0 0"), ("leads r to (x|~x)", "yes 1 1"),
                           ("leads ((a&b)&c) to ((b|c)|z)", "yes bc b+bc+c"), ("leads ~y to ~(y&z)", "yes 1+y 1+y"),
                           ("leads (x|y) to x", "no")):
            self.answers(desk, line, [text])
            self.answers(Desk(), line, [text])

    def test_leads(self):
        draws = chance(297)
        kinds = {"yes": 0, "no": 0}
        desk = Desk()
        for turn in range(300):
            shared = draws.choice(("a", "bx", "pqz", LETTERS[:6]))
            one = drawn_saying(draws, shared + draws.choice(("", "c", "y")), draws.randint(1, 14)).text()
            other = drawn_saying(draws, shared + draws.choice(("", "r")), draws.randint(1, 14)).text()
            told = desk.told("leads " + one + " to " + other)
            rows = all_rows("".join(sorted(set(one + other) & set(LETTERS))))
            if all(meant(other, row) or not meant(one, row) for row in rows):
                word, least, widest = told[0].split(" ")
                self.assertEqual((len(told), word), (1, "yes"))
                # Both lie between, and have common letters alone.
                least, widest = form_read(least), form_read(widest)
                self.assertTrue(set("".join(least + widest)) <= set(one) & set(other))
                for row, low, high in zip(rows, truths_of(least, rows), truths_of(widest, rows)):
                    self.assertTrue(meant(one, row) <= low <= high <= meant(other, row))
                kinds["yes"] += 1
            else:
                self.assertEqual(told, ["no"])
                kinds["no"] += 1
        self.assertGreater(min(kinds.values()), 50)


class Refused(Case):

    def desks(self):
        return [Desk(), desk_told("letters ab xy"), desk_told("letters a x", "wish x = a", "wish 1 = 1"),
                desk_told("letters a x", "wish a = 1"), desk_told("letters - x", *["wish x = x"] * 6)]

    def all_refused(self, lines):
        for desk in self.desks():
            before = looks(desk)
            for line in lines:
                self.refused(desk, line, NoLine)
            self.assertEqual(looks(desk), before)

    def test_another_first_word(self):
        self.all_refused(["", " ", "  ", "a", "x = a", "letter a x", "Letters a x", "LETTERS a x", "lettersa x",
                          "wishing x = a", "wish", "Wish x = a", "Wish", "wishx = a", "wishes!", "backs", "Back", "bac",
                          "faults", "Fault", "counts", "Count", "widest.", "fillings 0", "gaps x", "lead a to a",
                          "leading a to a", "yes", "none", "no", "0", "-", "leads", "filling", "gap", "letters", "to",
                          "told", "quit", "task", "wish=", "~", "="])

    def test_more_and_fewer_words(self):
        self.all_refused(["letters", "letters a", "letters -", "letters a x y", "letters a x -", "letters ax",
                          "back 1", "back back", "wishes 1", "wishes wishes", "fault x", "count 1", "count x",
                          "widest x", "filling", "filling 0 0", "filling 1 2", "gap", "gap x y", "gap x x",
                          "leads a to", "leads to a", "leads a b", "leads a", "leads", "leads a to b to c",
                          "leads a to b c", "leads a b to c", "leads (a & b) to c", "leads a to (b | c)",
                          "leads a to b x", "leads to", "leads to to"])

    def test_blanks(self):
        self.all_refused([" letters a x", "letters  a x", "letters a  x", "letters a x ", "letters a ", "letters  ",
                          "letters  x", "letters ", " back", "back ", " wishes", "wishes ", " fault", "fault ",
                          " count", "count ", " widest", "widest ", " filling 0", "filling  0", "filling 0 ",
                          "filling ", "filling  ", " gap x", "gap  x", "gap x ", "gap ", "gap  ", " leads a to a",
                          "leads  a to a", "leads a  to a", "leads a to  a", "leads a to a ", "leads a to ",
                          "leads  to a", "leads  to ", "leads a  a", " wish x = a", "  wish x = a", " wish", " wish "])

    def test_another_word_than_to(self):
        self.all_refused(["leads a too b", "leads a t b", "leads a To b", "leads a TO b", "leads a = b", "leads a a b",
                          "leads a & b", "leads to a to", "leads a -> b"])

    def test_numbers_that_are_none(self):
        self.all_refused(["filling " + word for word in (
            "-1", "+1", "-0", "+0", "00", "01", "007", "0" * 30, "0" + "1" * 29, "1" + "0" * 30, "9" * 31, "1" * 190,
            "0" * 31, "x", "a", "1x", "x1", "1.0", "1,0", "1_0", "1e1", "0x1", "0b1", "0o1", "(1)", "~1", "-",
            "\u0661", "\u00b2", "1\u0662", "\uff11", "--1", "1-", "1+", "0-", "one")])

    def test_numbers_of_thirty_figures(self):
        for desk in self.desks():
            for word in (THIRTY, "9" * 30, "1" * 29, "1" + "0" * 9):
                self.refused(desk, "filling " + word, NoNumber)

    def test_letters_that_are_none(self):
        for desk in self.desks():
            before = looks(desk)
            for words in ("x a", "x x", "a a", "ba x", "aa x", "a yx", "a xx", "abcd x", "p x", "a p", "A x", "a X",
                          "-a x", "-- x", "a --", "a- x", "a x-", "0 0", "a,b x", "ax -", "- ax", "cba -", "- zy",
                          "~a x", "x -", "- a"):
                self.refused(desk, "letters " + words, NoLetters)
            self.assertEqual(looks(desk), before)

    def test_wishes_that_are_none(self):
        for desk in self.desks()[:4]:
            before = looks(desk)
            for text in ("", " ", "   ", "x", "x a", "wish", "1", "~", "(x&a)", "x-a"):
                self.refused(desk, "wish " + text, NoWish)
            self.assertEqual(looks(desk), before)

    def test_sides_that_are_no_sayings(self):
        desk = desk_told("letters ab xy", "wish x = a")
        before = looks(desk)
        for text, place in (("=", 0), (" = ", 0), ("x =", 0), ("= x", 0), ("x == a", 0), ("x = a = b", 1),
                            ("(x&a = b", 4), ("(x & a) = b", 2), ("   (x & a)   = b", 2), ("x = (a&b", 4),
                            ("x =    (a&)", 3), ("x = a b", 1), ("x y = a", 1), ("d = 1", 0), ("x = A", 0),
                            ("~ = 1", 1), ("x) = (a", 1), ("x = (a", 2), ("()=1", 1), ("((((x = 1", 5)):
            self.refused(desk, "wish " + text, NoSaying, place=place)
        self.refused(desk, "wish x=" + "(" * 190, NoSaying, place=190)
        self.assertEqual(looks(desk), before)

    def test_too_many_parts(self):
        desk = desk_told("letters ab xy")
        before = looks(desk)
        for side in ("~" * 20 + "x", "(" * 10 + "x" + "&a)" * 10, "~" * 19 + "(x+a)", "~" * 20 + "z"):
            self.refused(desk, "wish " + side + " = 1", TooMany)
            self.refused(desk, "wish 1 = " + side, TooMany)
        self.assertEqual(looks(desk), before)
        for side in ("~" * 19 + "x", "~" + "(" * 9 + "x" + "&a)" * 9):
            self.answers(desk, "wish " + side + " = " + side, ["1"])
            self.answers(desk, "back", ["0"])

    def test_strange_letters(self):
        desk = desk_told("letters ab xy", "wish x = a")
        before = looks(desk)
        for text, letter in (("c = 1", "c"), ("1 = z", "z"), ("z = c", "z"), ("x = p", "p"), ("(x&(z|c)) = q", "z"),
                             ("(x&a) = (y|(r+c))", "r"), ("c=c", "c"), (" ~p = ~q ", "p")):
            self.refused(desk, "wish " + text, Strange, letter=letter)
        self.assertEqual(looks(desk), before)

    def test_a_seventh_wish_whatever_it_is(self):
        desk = desk_told("letters a x", *["wish x = a"] * 6)
        before = looks(desk)
        for text in ("x = a", "1 = 1", "", " ", "x", "=", "x = ", "(x = a", "z = 1", "x = " + "~" * 20 + "x", "d"):
            self.refused(desk, "wish " + text, TooMany)
        self.refused(desk, "wish", NoLine)
        self.assertEqual(looks(desk), before)
        self.answers(desk, "wishes", ["x = a"] * 6)
        self.answers(desk, "back", ["5"])
        self.answers(desk, "wish x = a", ["6"])
        self.refused(desk, "wish x = a", TooMany)

    def test_leads_with_sides_that_are_no_sayings(self):
        for desk in self.desks():
            before = looks(desk)
            for line, place in (("leads ( to a", 1), ("leads a to (", 1), ("leads ( to ~~", 1), ("leads ~~ to (", 2),
                                ("leads ab to 1", 1), ("leads 1 to (a&b", 4), ("leads (a&b)) to d", 5),
                                ("leads to to to", 0), ("leads = to a", 0), ("leads a to a=", 1), ("leads A to a", 0),
                                ("leads (a|b)~ to (", 5), ("leads - to -", 0)):
                self.refused(desk, line, NoSaying, place=place)
            self.refused(desk, "leads " + "(" * 180 + " to a", NoSaying, place=180)
            self.assertEqual(looks(desk), before)

    def test_each_refusal_is_under_its_base_alone(self):
        for line in ("", "back", "letters x x", "wish", "wish a", "wish a=", "wish a=a", "filling 1", "gap x"):
            with self.assertRaises(FillError) as caught:
                Desk().told(line)
            self.assertIs(type(caught.exception).__base__, FillError)


class Kept(Case):

    def test_what_is_refused_and_what_only_asks_leaves_the_desk_as_it_was(self):
        lines = ("letters ab xy", "wish x = (a&y)", "letters a z", "wish z = a", "wish (z|a) = a", "wish z = 1")
        others = list(ASKING) + ["", "back 1", "letters a", "letters x a", "letters ba x", "wish", "wish ", "wish a",
                                 "wish a =", "wish (a = 1", "wish p = 1", "wish c = 1", "wish a = " + "~" * 20 + "a",
                                 "filling", "filling 01", "filling -1", "filling " + "9" * 30, "gap", "gap a",
                                 "gap xyz", "leads a", "leads ( to )", "leads a to )"]
        for size in range(len(lines) + 1):
            right = taken_back(desk_told(*lines[:size]))
            self.assertEqual(len(right), size + 1)
            for other in others:
                desk = desk_told(*lines[:size])
                answered(desk, other)
                answered(desk, other)
                self.assertEqual(taken_back(desk), right, other)

    def test_back_that_is_refused_leaves_the_desk_as_it_was(self):
        desk = Desk()
        for turn in range(3):
            self.refused(desk, "back", NothingDone)
        self.answers(desk, "letters a x", ["0"])
        self.answers(desk, "wish x = a", ["1"])
        self.assertEqual(len(taken_back(desk)), 3)

    def test_two_desks_keep_their_own_tasks(self):
        first, second = Desk(), Desk()
        self.answers(first, "letters a x", ["0"])
        self.refused(second, "back", NothingDone)
        self.refused(second, "gap x", Strange, letter="x")
        self.answers(second, "letters - xyz", ["0"])
        self.answers(first, "wish x = a", ["1"])
        self.answers(second, "wishes", [])
        self.answers(second, "count", ["8"])
        self.answers(first, "count", ["1"])
        self.answers(second, "back", ["0"])
        self.answers(second, "count", ["1"])
        self.answers(first, "wishes", ["x = a"])
        self.answers(Desk(), "wishes", [])

    def test_the_list_told_is_the_askers_own(self):
        desk = desk_told("letters ab xy", "wish (x&y) = 0", "wish x = a")
        for line in ASKING[:8]:
            kept = answered(desk, line)
            if not isinstance(kept, list):
                continue
            told = desk.told(line)
            told.append("spoilt")
            told[0] = "spoilt"
            self.answers(desk, line, kept)
        numbers = desk.told("wish 1 = 1")
        numbers.clear()
        self.answers(desk, "wishes", ["(x&y) = 0", "x = a", "1 = 1"])
        empty = desk_told("letters a -")
        for line in ("wishes", "widest", "filling 0"):
            empty.told(line).append("spoilt")
            self.answers(empty, line, [])
        desk.told("wishes").append("x = y")
        self.answers(desk, "wish 1 = 1", ["4"])

    def test_drawn_lines_against_what_was_done(self):
        draws = chance(298)
        for turn in range(25):
            desk = Desk()
            done = [("", "", [])]
            for step in range(40):
                givens, gaps, wishes = done[-1]
                word = draws.choice(("letters", "wish", "wish", "wish", "back", "back", "ask"))
                if word == "letters":
                    task = (draws.choice(GIVEN_ROWS), draws.choice(GAP_ROWS), [])
                    done.append(task)
                    self.answers(desk, "letters " + (task[0] or "-") + " " + (task[1] or "-"), ["0"])
                elif word == "wish":
                    wish = drawn_wish(draws, givens + gaps, 5)
                    if len(wishes) == 6:
                        self.refused(desk, "wish " + wish, TooMany)
                    else:
                        done.append((givens, gaps, wishes + [written(wish)]))
                        self.answers(desk, "wish " + wish, [str(len(wishes) + 1)])
                elif word == "back" and len(done) == 1:
                    self.refused(desk, "back", NothingDone)
                elif word == "back":
                    done.pop()
                    self.answers(desk, "back", [str(len(done[-1][2]))])
                else:
                    self.answers(desk, "wishes", wishes)
                    self.assertEqual(looks(desk), looks(desk_of(givens, gaps, wishes)))


if __name__ == "__main__":
    unittest.main()
