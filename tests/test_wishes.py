import itertools
import unittest

from fillsay.errors import FillError, NoLetters, NoSaying, NoWish, Strange, TooMany
from fillsay.forms import form_of, letters_of
from fillsay.texts import read
from fillsay.wishes import Task
from tests.helper import FREE, GAP_ROWS, GIVEN_ROWS, all_rows, chance, drawn_form, drawn_tasks, drawn_wish, fails
from tests.helper import is_form, meant, meant_to_fill, row_at, sides_of, truths_of


class Told(unittest.TestCase):

    def test_letters(self):
        for givens, gaps in itertools.product(GIVEN_ROWS, GAP_ROWS):
            task = Task(givens, gaps, [])
            self.assertEqual((task.givens(), task.gaps()), (givens, gaps))
            self.assertEqual((task.wishes(), task.sides(), task.fault()), ([], [], ()))

    def test_wishes_as_written(self):
        told = (
            ("x=a", "x = a"), ("x = a", "x = a"), ("   x   =    a  ", "x = a"), ("x= a", "x = a"), (" x=a", "x = a"),
            ("(a&x)=~(b|1)", "(a&x) = ~(b|1)"), ("1 =0", "1 = 0"), ("~~x = (x+x)", "~~x = (x+x)"),
        )
        for wish, written in told:
            self.assertEqual(Task("ab", "x", [wish]).wishes(), [written])
        self.assertEqual(Task("ab", "x", [wish for wish, written in told[:6]]).wishes(),
                         [written for wish, written in told[:6]])

    def test_wishes_handed_in_again_as_they_were_told(self):
        for givens, gaps, wishes in drawn_tasks(151, 1):
            task = Task(givens, gaps, wishes)
            again = Task(task.givens(), task.gaps(), task.wishes())
            self.assertEqual(again.wishes(), task.wishes())
            self.assertEqual(again.sides(), task.sides())
            self.assertEqual(again.fault(), task.fault())

    def test_the_same_wish_several_times(self):
        task = Task("a", "x", ["x = a"] * 6)
        self.assertEqual(task.wishes(), ["x = a"] * 6)
        self.assertEqual(task.sides(), [(("x",), ("a",))] * 6)
        self.assertEqual(task.fault(), ("a", "x"))

    def test_sides_by_hand(self):
        task = Task("ab", "xy", ["(a|x) = ~b", " 0=1", "x = (x&y)", "(x+x) = ~(a&~a)"])
        self.assertEqual(task.sides(), [(("a", "ax", "x"), ("", "b")), ((), ("",)), (("x",), ("xy",)), ((), ("",))])

    def test_sides_are_forms_of_the_sayings(self):
        for givens, gaps, wishes in drawn_tasks(152, 1):
            sides = Task(givens, gaps, wishes).sides()
            self.assertIsInstance(sides, list)
            self.assertEqual(len(sides), len(wishes))
            for wish, pair in zip(wishes, sides):
                self.assertIsInstance(pair, tuple)
                self.assertEqual(len(pair), 2)
                for text, form in zip(sides_of(wish), pair):
                    rows = all_rows(givens + gaps)
                    self.assertTrue(is_form(form))
                    self.assertEqual(truths_of(form, rows), [meant(text, row) for row in rows])

    def test_twenty_parts(self):
        twenty = "~" * 19 + "x"
        even = "~(((((((((a&x)|b)+a)|x)&b)+x)|a)&x)|b)"
        self.assertEqual((read(twenty).size(), read(even).size()), (20, 20))
        for left, right in ((twenty, "a"), ("a", twenty), (even, "b"), (even, even), (twenty, even)):
            self.assertEqual(Task("ab", "x", [left + " = " + right]).wishes(), [left + " = " + right])


class Faults(unittest.TestCase):

    def test_by_hand(self):
        self.assertEqual(Task("", "", []).fault(), ())
        self.assertEqual(Task("abc", "xyz", []).fault(), ())
        self.assertEqual(Task("", "", ["1 = 1"]).fault(), ())
        self.assertEqual(Task("", "", ["1 = 0"]).fault(), ("",))
        self.assertEqual(Task("a", "x", ["x = a"]).fault(), ("a", "x"))
        self.assertEqual(Task("a", "x", ["x = ~a"]).fault(), ("", "a", "x"))
        self.assertEqual(Task("a", "x", ["(x&a) = (a&x)"]).fault(), ())
        self.assertEqual(Task("a", "xy", ["x = 0", "y = 0"]).fault(), ("x", "xy", "y"))
        self.assertEqual(Task("a", "x", ["x = a", "x = ~a"]).fault(), ("",))

    def test_against_the_truths_by_all_rows(self):
        for givens, gaps, wishes in drawn_tasks(16, 2):
            fault = Task(givens, gaps, wishes).fault()
            self.assertTrue(is_form(fault))
            self.assertTrue(set(letters_of(fault)) <= set(givens + gaps))
            rows = all_rows(givens + gaps)
            self.assertEqual(truths_of(fault, rows), [fails(wishes, row) for row in rows], wishes)


class Doing(unittest.TestCase):

    def test_by_hand(self):
        self.assertEqual(Task("", "", []).doing(), [[0]])
        self.assertEqual(Task("", "", ["1 = 0"]).doing(), [[]])
        self.assertEqual(Task("", "x", ["x = 1"]).doing(), [[1]])
        self.assertEqual(Task("a", "", ["a = 1"]).doing(), [[], [0]])
        self.assertEqual(Task("a", "x", ["x = a"]).doing(), [[0], [1]])
        self.assertEqual(Task("ab", "x", ["x = (a&b)"]).doing(), [[0], [0], [0], [1]])
        self.assertEqual(Task("ab", "x", ["x = b"]).doing(), [[0], [1], [0], [1]])
        self.assertEqual(Task("a", "xy", ["(x|y) = a"]).doing(), [[0], [1, 2, 3]])
        self.assertEqual(Task("a", "xy", ["x = 1"]).doing(), [[2, 3], [2, 3]])
        self.assertEqual(Task("b", "yz", ["(y&z) = b", "y = ~z"]).doing(), [[1, 2], []])
        self.assertEqual(Task("", "xyz", []).doing(), [list(range(8))])
        self.assertEqual(Task("abc", "", []).doing(), [[0]] * 8)

    def test_does_by_hand(self):
        task = Task("ab", "xy", ["x = (a&b)", "y = a"])
        self.assertIs(task.does(0, 0), True)
        self.assertIs(task.does(0, 1), False)
        self.assertIs(task.does(1, 0), True)
        self.assertIs(task.does(1, 1), False)
        self.assertIs(task.does(2, 1), True)
        self.assertIs(task.does(2, 2), False)
        self.assertIs(task.does(3, 3), True)
        self.assertIs(Task("", "", []).does(0, 0), True)
        self.assertIs(Task("", "", ["0 = 1"]).does(0, 0), False)

    def test_against_the_truths_over_all_letters(self):
        for givens, gaps, wishes in drawn_tasks(17, 2):
            task = Task(givens, gaps, wishes)
            doing = []
            for given_row in range(2 ** len(givens)):
                told = [gap_row for gap_row in range(2 ** len(gaps))
                        if not fails(wishes, {**row_at(givens, given_row), **row_at(gaps, gap_row)})]
                for gap_row in range(2 ** len(gaps)):
                    self.assertIs(task.does(given_row, gap_row), gap_row in told, (givens, gaps, wishes))
                doing.append(told)
            self.assertEqual(task.doing(), doing)


class Fills(unittest.TestCase):

    def test_by_hand(self):
        self.assertIs(Task("", "", []).fills([]), True)
        self.assertIs(Task("", "", ["1 = 0"]).fills([]), False)
        self.assertIs(Task("a", "", ["a = a"]).fills([]), True)
        self.assertIs(Task("a", "", ["a = 1"]).fills([]), False)
        task = Task("ab", "x", ["(x&a) = (a&b)"])
        for filling, truth in ((("b",), True), (("ab",), True), (("a",), False), ((), False), (("",), False),
                               (("", "a", "ab"), True), (("", "b"), False), (("b", "p"), False),
                               (("ab", "ap", "p"), True), (("p",), False)):
            self.assertIs(task.fills([filling]), truth, filling)
        free = Task("a", "xy", ["x = ~y"])
        self.assertIs(free.fills([("p",), ("", "p")]), True)
        self.assertIs(free.fills([("q",), ("", "q")]), True)
        self.assertIs(free.fills([("p",), ("", "q")]), False)
        self.assertIs(free.fills([("a",), ("", "a")]), True)
        self.assertIs(Task("", "z", []).fills([("r",)]), True)

    def test_the_forms_stand_in_the_order_of_the_gaps(self):
        task = Task("ab", "xz", ["x = a", "z = b"])
        self.assertIs(task.fills([("a",), ("b",)]), True)
        self.assertIs(task.fills([("b",), ("a",)]), False)

    def test_all_plain_fillings_of_small_tasks(self):
        plain = ((), ("",), ("a",), ("", "a"))
        draws = chance(18)
        both = {True: 0, False: 0}
        for gaps in GAP_ROWS[:7]:
            for turn in range(8):
                wishes = [drawn_wish(draws, "a" + gaps, 6) for wish in range(draws.randint(0, 2))]
                task = Task("a", gaps, wishes)
                for filling in itertools.product(plain, repeat=len(gaps)):
                    truth = meant_to_fill("a", gaps, wishes, filling)
                    self.assertIs(task.fills(list(filling)), truth, (gaps, wishes, filling))
                    both[truth] += 1
        self.assertGreater(min(both.values()), 30)

    def test_plain_fillings_that_were_picked_row_by_row(self):
        draws = chance(181)
        filled = 0
        for givens, gaps, wishes in drawn_tasks(182, 3):
            task = Task(givens, gaps, wishes)
            if [] in task.doing():
                continue
            rows = [draws.choice(does) for does in task.doing()]
            tables = [[row_at(gaps, row)[gap] for row in rows] for gap in gaps]
            self.assertIs(task.fills([form_of(givens, table) for table in tables]), True)
            filled += 1
        self.assertGreater(filled, 40)

    def test_fillings_in_free_letters(self):
        draws = chance(183)
        both = {True: 0, False: 0}
        for givens, gaps, wishes in drawn_tasks(184, 2):
            task = Task(givens, gaps, wishes[:1])
            free = "".join(FREE[gap] for gap in gaps)
            for turn in range(4):
                filling = [drawn_form(draws, givens + free, 64) for gap in gaps]
                truth = meant_to_fill(givens, gaps, wishes[:1], filling)
                self.assertIs(task.fills(filling), truth, (givens, gaps, wishes[:1], filling))
                both[truth] += 1
        self.assertGreater(min(both.values()), 30)

    def test_the_filling_handed_in_stays(self):
        filling = [("p",), ("", "p")]
        task = Task("a", "xy", ["x = ~y"])
        self.assertIs(task.fills(filling), True)
        self.assertEqual(filling, [("p",), ("", "p")])
        filling[0] = ()
        self.assertIs(task.fills([("p",), ("", "p")]), True)
        self.assertIs(task.fills(filling), False)


class Kept(unittest.TestCase):

    def all_told(self, task):
        return (task.givens(), task.gaps(), task.wishes(), task.sides(), task.fault(), task.doing(),
                task.does(1, 2), task.fills([("a",), ("b",)]))

    def test_the_list_handed_in_stays_and_may_be_changed_after(self):
        wishes = ["x = a ", " (y&a)=(a&b)"]
        task = Task("ab", "xy", wishes)
        self.assertEqual(wishes, ["x = a ", " (y&a)=(a&b)"])
        told = self.all_told(task)
        wishes[0] = "x = ~a"
        wishes.append("1 = 0")
        self.assertEqual(self.all_told(task), told)
        wishes.clear()
        self.assertEqual(self.all_told(task), told)

    def test_lists_told_may_be_spoilt(self):
        task = Task("ab", "xy", ["x = a", "(y&a) = (a&b)"])
        told = self.all_told(task)
        for spoilt in (task.wishes(), task.sides(), task.doing()):
            spoilt[0] = "1 = 0"
            spoilt.append("1 = 0")
            self.assertEqual(self.all_told(task), told)
            spoilt.clear()
            self.assertEqual(self.all_told(task), told)
        for rows in task.doing():
            rows.clear()
        self.assertEqual(self.all_told(task), told)

    def test_an_empty_list_told_may_be_spoilt(self):
        task = Task("", "", [])
        for spoilt in (task.wishes(), task.sides(), task.doing()):
            spoilt.append("1 = 0")
        self.assertEqual((task.wishes(), task.sides(), task.doing(), task.fault()), ([], [], [[0]], ()))
        self.assertEqual(Task("", "", []).wishes(), [])

    def test_lists_told_are_new_each_time(self):
        task = Task("a", "x", ["x = a"])
        self.assertIsNot(task.wishes(), task.wishes())
        self.assertIsNot(task.sides(), task.sides())
        self.assertIsNot(task.doing(), task.doing())
        self.assertIsNot(task.doing()[0], task.doing()[0])

    def test_asked_again_it_answers_the_same(self):
        for givens, gaps, wishes in drawn_tasks(2, 1):
            one = Task(givens, gaps, wishes)
            other = Task(givens, gaps, list(wishes))
            told = [(task.wishes(), task.sides(), task.fault(), task.doing()) for task in (one, other, one)]
            self.assertEqual(told[0], told[1])
            self.assertEqual(told[0], told[2])

    def test_two_tasks_do_not_touch_one_another(self):
        one = Task("a", "x", ["x = a"])
        other = Task("b", "y", ["y = ~b", "1 = 1"])
        self.assertEqual((one.givens(), one.gaps(), one.wishes()), ("a", "x", ["x = a"]))
        self.assertEqual((other.givens(), other.gaps(), other.wishes()), ("b", "y", ["y = ~b", "1 = 1"]))
        self.assertEqual((one.doing(), other.doing()), ([[0], [1]], [[1], [0]]))


class Refused(unittest.TestCase):

    def refused(self, kind, givens, gaps, wishes):
        with self.assertRaises(FillError, msg=(givens, gaps, wishes)) as taken:
            Task(givens, gaps, wishes)
        self.assertIs(type(taken.exception), kind, (givens, gaps, wishes))
        self.assertIsInstance(taken.exception, ValueError)
        return taken.exception

    def no_saying(self, wish, place):
        self.assertEqual(self.refused(NoSaying, "ab", "xy", [wish]).place, place, wish)

    def strange(self, givens, gaps, wish, letter):
        self.assertEqual(self.refused(Strange, givens, gaps, [wish]).letter, letter, wish)

    def test_no_letters(self):
        for givens in ("ba", "aa", "cb", "aab", "abcc", "bac", "x", "ax", "p", "ap", "q", "d", "A", " ", "a b", "a ",
                       "-", "abcd", "0", "1", "xyz", "a,b"):
            self.refused(NoLetters, givens, "", [])
            self.refused(NoLetters, givens, "xy", [])
        for gaps in ("yx", "xx", "zy", "xyzz", "xzy", "a", "ax", "xa", "p", "px", "r", "w", "X", " ", "x y", " x",
                     "-", "wxyz", "0", "abc"):
            self.refused(NoLetters, "", gaps, [])
            self.refused(NoLetters, "ab", gaps, [])
        self.refused(NoLetters, "xy", "ab", [])
        self.refused(NoLetters, "ba", "yx", [])

    def test_all_short_rows_of_letters(self):
        for size in range(4):
            for signs in itertools.product("abcxyzp", repeat=size):
                text = "".join(signs)
                if text in GIVEN_ROWS:
                    self.assertEqual(Task(text, "", []).givens(), text)
                else:
                    self.refused(NoLetters, text, "", [])
                if text in GAP_ROWS:
                    self.assertEqual(Task("", text, []).gaps(), text)
                else:
                    self.refused(NoLetters, "", text, [])

    def test_more_than_six_wishes(self):
        self.assertEqual(len(Task("a", "x", ["x = a"] * 6).wishes()), 6)
        for size in (7, 8, 100):
            self.refused(TooMany, "a", "x", ["x = a"] * size)

    def test_too_many_goes_ahead_of_what_is_wrong_with_a_wish(self):
        for wrong in ("", "no wish", " = a", "x = d", "x = b", "~" * 20 + "a = x"):
            for place in (0, 3, 6):
                wishes = ["x = a"] * 6
                wishes.insert(place, wrong)
                self.refused(TooMany, "a", "x", wishes)
        self.refused(TooMany, "a", "x", [""] * 7)

    def test_no_letters_goes_ahead_of_all(self):
        for wishes in (["x = a"] * 7, ["no wish"], ["x = "], ["x = c"], ["~" * 20 + "a = x"], [""] * 7):
            self.refused(NoLetters, "ba", "x", wishes)
            self.refused(NoLetters, "a", "xx", wishes)

    def test_no_wish(self):
        for wish in ("", " ", "x", "x a", "(x&a)", "x + a", "x -> a", "d", "~" * 30 + "a", "c"):
            self.refused(NoWish, "ab", "x", [wish])

    def test_no_saying_on_the_left(self):
        for wish, place in (("= a", 0), ("=", 0), ("   = a", 0), ("d = a", 0), ("  d = a", 0), ("xa = a", 1),
                            ("  x a= b", 1), ("(x&a = a", 4), ("   (x&a   = a", 4), ("(x & a) = a", 2), ("~ = a", 1),
                            ("~  = a", 1), (" x) = a", 1), (" (x&d) =a", 3)):
            self.no_saying(wish, place)

    def test_no_saying_on_the_right(self):
        for wish, place in (("a =", 0), ("a =   ", 0), ("a = d", 0), ("a =    d", 0), ("a = ab", 1),
                            ("a =  b x  ", 1), ("a = (x&", 3), ("a =   (x&   ", 3), ("a= ( x&b)", 1), ("a = ~", 1),
                            ("(a&x) =   (x&d)", 3)):
            self.no_saying(wish, place)

    def test_two_signs_of_likeness(self):
        for wish, place in (("a = x = b", 1), ("a == x", 0), ("a = x=b", 1), ("a = x =", 1), ("a =  = x", 0),
                            ("==", 0), ("a = (x=b)", 2), ("(a=x) = b", 2)):
            self.no_saying(wish, place)

    def test_the_left_saying_goes_ahead_of_the_right_one(self):
        for wish, place in (("ab = d", 1), ("d = ab", 0), ("= ", 0), ("(x&a = ", 4), ("(a&x) = xd", 1)):
            self.no_saying(wish, place)

    def test_more_than_twenty_parts(self):
        more = "~" * 20 + "x"
        pairs = "(" * 10 + "x" + "+a)" * 10
        self.assertEqual((read(more).size(), read(pairs).size()), (21, 21))
        for wide in (more, pairs, "~" * 30 + "a", "~" * 150 + "x"):
            self.refused(TooMany, "a", "x", [wide + " = a"])
            self.refused(TooMany, "a", "x", ["a = " + wide])
            self.refused(TooMany, "a", "x", [wide + "=" + "(x&a)"])
        self.refused(TooMany, "a", "x", [more + " = " + pairs])

    def test_no_saying_goes_ahead_of_too_many_parts(self):
        more = "~" * 20 + "x"
        self.no_saying(more + " = d", 0)
        self.no_saying(more + " = (a&", 3)
        self.no_saying("ad = " + more, 1)
        self.no_saying(more + "d = a", 21)

    def test_too_many_parts_go_ahead_of_strange(self):
        self.refused(TooMany, "a", "x", ["~" * 20 + "y = a"])
        self.refused(TooMany, "a", "x", ["b = " + "~" * 20 + "x"])
        self.refused(TooMany, "a", "x", ["~" * 20 + "x = b"])

    def test_no_saying_goes_ahead_of_strange(self):
        self.no_saying("z = d", 0)
        self.no_saying("c = (a&b", 4)

    def test_strange(self):
        for givens, gaps, wish, letter in (
                ("ab", "x", "c = a", "c"), ("ab", "x", "a = c", "c"), ("ab", "x", "y = c", "y"),
                ("ab", "x", "c = y", "c"), ("ab", "x", "(a&z) = c", "z"), ("ab", "x", "(z&c) = 1", "z"),
                ("ab", "x", "(c&z) = 1", "c"), ("ab", "x", "x = (p+c)", "p"), ("ab", "x", "x = p", "p"),
                ("ab", "xyz", "q = x", "q"), ("ab", "xyz", "x = (r|(q&p))", "r"), ("", "", "a = x", "a"),
                ("", "", "x = a", "x"), ("", "x", "x = ~~b", "b"), ("abc", "", "(a&(b|c)) = ~(a+z)", "z"),
                ("b", "y", "(b&y) = (y&(x|a))", "x"), ("abc", "xyz", "(x&p) = q", "p")):
            self.strange(givens, gaps, wish, letter)

    def test_strange_over_all_letters(self):
        for givens, gaps in itertools.product(GIVEN_ROWS, GAP_ROWS):
            for letter in "abcpqrxyz":
                if letter in givens + gaps:
                    self.assertEqual(Task(givens, gaps, [letter + " = 1"]).sides(), [((letter,), ("",))])
                else:
                    self.strange(givens, gaps, letter + " = 1", letter)
                    self.strange(givens, gaps, "(0|~0) = ~" + letter, letter)

    def test_of_two_wrong_wishes_the_one_ahead_is_told(self):
        wrong = (("x a", NoWish), ("d = a", NoSaying), ("x = (", NoSaying), ("~" * 20 + "a = x", TooMany),
                 ("x = b", Strange), ("z = a", Strange))
        for (one, kind), (other, behind) in itertools.product(wrong, wrong):
            told = self.refused(kind, "a", "x", ["x = a", one, "a = 1", other])
            alone = self.refused(kind, "a", "x", [one])
            self.assertEqual(vars(told), vars(alone))
            self.refused(behind, "a", "x", ["x = a", other, one])

    def test_a_wrong_wish_behind_five_right_ones(self):
        five = ["x = a", "1 = 1", "~x = ~a", "(x|a) = a", "0=0"]
        self.assertEqual(len(Task("a", "x", five).wishes()), 5)
        self.refused(NoWish, "a", "x", five + ["x"])
        self.assertEqual(self.refused(Strange, "a", "x", five + ["x = y"]).letter, "y")
        self.assertEqual(self.refused(NoSaying, "a", "x", five + ["x = a b"]).place, 1)

    def test_the_list_handed_in_stays_where_it_is_refused(self):
        wishes = ["x = a", " x = ", "no"]
        self.refused(NoSaying, "a", "x", wishes)
        self.assertEqual(wishes, ["x = a", " x = ", "no"])


if __name__ == "__main__":
    unittest.main()
