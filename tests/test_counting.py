import copy
import itertools
import math
import unittest

from fillsay.counting import filling_at, how_many, number_of
from fillsay.errors import NoFilling, NoNumber
from fillsay.wishes import Task
from tests.helper import GAP_ROWS, GIVEN_ROWS, chance, drawn_filling, drawn_form, drawn_tasks, form_by, gap_rows_of
from tests.helper import is_form, meant_to_do, plain_fillings, row_at, small_tasks, wish_with_fault

GREAT = 10 ** 60 - 1


def fills(givens, gaps, doing, plain):
    return all(row in there for row, there in zip(gap_rows_of(givens, gaps, plain), doing))


def meant_number(givens, gaps, doing, plain):
    """The number of a filling, its figures weighed one by one as point 26 tells."""
    figures = [there.index(row) for row, there in zip(gap_rows_of(givens, gaps, plain), doing)]
    return sum(figure * math.prod(len(there) for there in doing[place + 1:]) for place, figure in enumerate(figures))


def tasks_by_filling(seed, turns, filled):
    return [(givens, gaps, wishes) for givens, gaps, wishes in drawn_tasks(seed, turns)
            if ([] not in meant_to_do(givens, gaps, wishes)) is filled]


class HowMany(unittest.TestCase):

    def test_by_hand(self):
        for task, number in (
                (Task("", "", []), 1), (Task("a", "", []), 1), (Task("abc", "", []), 1),
                (Task("abc", "", ["a = a"]), 1),
                (Task("", "x", []), 2), (Task("a", "x", []), 4), (Task("ab", "y", []), 16), (Task("abc", "z", []), 256),
                (Task("", "xy", []), 4), (Task("", "xyz", []), 8), (Task("a", "xy", []), 16),
                (Task("abc", "xyz", []), 8 ** 8),
                (Task("a", "x", ["x = a"]), 1), (Task("a", "x", ["(x&a) = a"]), 2),
                (Task("ab", "x", ["(x&a) = (a&b)"]), 4), (Task("", "xy", ["(x&y) = 0"]), 3),
                (Task("abc", "xyz", ["(x&(y&z)) = 0"]), 7 ** 8), (Task("abc", "xyz", ["(x|(y|z)) = a"]), 7 ** 4),
                (Task("abc", "xyz", ["((a&b)&c) = (x&(y&z))"]), 7 ** 7),
                (Task("", "", ["1 = 0"]), 0), (Task("a", "", ["a = 1"]), 0), (Task("abc", "", ["((a&b)&c) = 0"]), 0),
                (Task("a", "x", ["(x&a) = 1"]), 0), (Task("", "x", ["x = ~x"]), 0),
                (Task("abc", "xyz", ["((a&b)&c) = 0"]), 0)):
            self.assertEqual(how_many(task), number, (task.givens(), task.gaps(), task.wishes()))
            self.assertIs(type(how_many(task)), int)

    def test_small_tasks_counted_one_by_one(self):
        plains = {}
        seen = set()
        for givens, gaps, wishes in small_tasks():
            if (givens, gaps) not in plains:
                plains[(givens, gaps)] = plain_fillings(givens, gaps)
            task = Task(givens, gaps, wishes)
            doing = meant_to_do(givens, gaps, wishes)
            count = sum(fills(givens, gaps, doing, plain) for plain in plains[(givens, gaps)])
            self.assertEqual(how_many(task), count, (givens, gaps, wishes))
            self.assertEqual(count, sum(task.fills(plain) for plain in plains[(givens, gaps)]))
            seen.add(count)
        self.assertTrue({0, 1, 2, 3, 4, 6, 9, 12, 16} <= seen)

    def test_somewhat_greater_tasks_counted_one_by_one(self):
        draws = chance(251)
        for givens, gaps in (("ab", "yz"), ("a", "xyz"), ("abc", "y")):
            plains = plain_fillings(givens, gaps)
            for turn in range(3):
                wishes = [wish_with_fault(drawn_form(draws, givens + gaps, 4))]
                doing = meant_to_do(givens, gaps, wishes)
                count = sum(fills(givens, gaps, doing, plain) for plain in plains)
                self.assertEqual(how_many(Task(givens, gaps, wishes)), count)

    def test_without_wishes(self):
        for givens, gaps in itertools.product(GIVEN_ROWS, GAP_ROWS):
            number = (2 ** len(gaps)) ** (2 ** len(givens))
            self.assertEqual(how_many(Task(givens, gaps, [])), number)
            self.assertEqual(how_many(Task(givens, gaps, ["1 = 1"])), number)
            self.assertEqual(how_many(Task(givens, gaps, ["1 = 0"])), 0)

    def test_the_product_over_all_given_rows(self):
        both = {True: 0, False: 0}
        for givens, gaps, wishes in drawn_tasks(252, 6):
            number = 1
            for there in meant_to_do(givens, gaps, wishes):
                number *= len(there)
            self.assertEqual(how_many(Task(givens, gaps, wishes)), number, (givens, gaps, wishes))
            both[number == 0] += 1
        self.assertGreater(min(both.values()), 100)


class FillingAt(unittest.TestCase):

    def test_by_hand(self):
        # At the given rows 0 to 3 the gap rows [0, 1], [0, 1], [0] and [1] do.
        task = Task("ab", "x", ["(x&a) = (a&b)"])
        self.assertEqual([filling_at(task, number) for number in range(4)],
                         [[("ab",)], [("b",)], [("", "a", "b")], [("", "a", "ab")]])
        # The gap rows of x and y that do: 0, 1 and 2 at a's row 0, 1 and 2 at row 1.
        task = Task("a", "xy", ["(x&y) = 0", "(a&(x|y)) = a"])
        self.assertEqual(task.doing(), [[0, 1, 2], [1, 2]])
        self.assertEqual([filling_at(task, number) for number in range(6)],
                         [[(), ("a",)], [("a",), ()], [(), ("",)], [("a",), ("", "a")], [("", "a"), ("a",)],
                          [("",), ()]])

    def test_no_gaps(self):
        for givens in GIVEN_ROWS:
            for wishes in ([], ["1 = 1"]):
                task = Task(givens, "", wishes)
                self.assertEqual(filling_at(task, 0), [])
                self.assertIsInstance(filling_at(task, 0), list)
                self.assertEqual(number_of(task, []), 0)
                self.refused(task, 1)
                self.refused(task, -1)

    def test_no_givens(self):
        task = Task("", "xyz", [])
        for number in range(8):
            row = row_at("xyz", number)
            self.assertEqual(filling_at(task, number), [("",) if row[gap] else () for gap in "xyz"])

    def test_each_number_of_small_tasks(self):
        numbers = 0
        for givens, gaps, wishes in small_tasks():
            task = Task(givens, gaps, wishes)
            doing = meant_to_do(givens, gaps, wishes)
            # Rising numbers are the rising choices of one gap row for each given row.
            for number, gap_rows in enumerate(itertools.product(*doing)):
                filling = filling_at(task, number)
                self.assertEqual(gap_rows_of(givens, gaps, filling), list(gap_rows), (givens, gaps, wishes, number))
                self.assertEqual(number_of(task, filling), number)
                numbers += 1
            self.refused(task, math.prod(len(there) for there in doing))
            self.refused(task, -1)
        self.assertGreater(numbers, 2000)

    def test_what_is_told_is_a_plain_filling_that_fills(self):
        draws = chance(261)
        for givens, gaps, wishes in tasks_by_filling(262, 3, True):
            task = Task(givens, gaps, wishes)
            count = how_many(task)
            for number in [0, count - 1] + [draws.randrange(count) for turn in range(4)]:
                filling = filling_at(task, number)
                self.assertIsInstance(filling, list)
                self.assertEqual(len(filling), len(gaps))
                self.assertTrue(all(is_form(form) for form in filling))
                self.assertTrue(set("".join("".join(form) for form in filling)) <= set(givens))
                self.assertTrue(task.fills(filling))
                self.assertEqual(number_of(task, filling), number)

    def test_great_tasks(self):
        task = Task("abc", "xyz", [])
        self.assertEqual(filling_at(task, 0), [(), (), ()])
        self.assertEqual(filling_at(task, 8 ** 8 - 1), [("",), ("",), ("",)])
        # One figure that is 7: the gaps are all true at that given row alone.
        for place in range(8):
            form = form_by("abc", [row == place for row in range(8)])
            self.assertEqual(filling_at(task, 7 * 8 ** (7 - place)), [form] * 3)
        # The figures 1, 2 and 4 at the given row 0: just z, y or x is true there.
        first = form_by("abc", [True] + [False] * 7)
        self.assertEqual(filling_at(task, 8 ** 7), [(), (), first])
        self.assertEqual(filling_at(task, 2 * 8 ** 7), [(), first, ()])
        self.assertEqual(filling_at(task, 4 * 8 ** 7), [first, (), ()])

    def refused(self, task, number):
        with self.assertRaises(NoNumber) as caught:
            filling_at(task, number)
        self.assertIs(type(caught.exception), NoNumber)

    def test_numbers_that_are_refused(self):
        far = (-1, -2, -8, -GREAT, GREAT, 10 ** 29, 10 ** 30, 10 ** 30 - 1, -10 ** 29, 10 ** 40)
        for givens, gaps, wishes in tasks_by_filling(263, 2, True):
            task = Task(givens, gaps, wishes)
            count = how_many(task)
            for number in far + (count, count + 1, 2 * count, -count):
                self.refused(task, number)
            filling_at(task, count - 1)

    def test_where_nothing_fills(self):
        for givens, gaps, wishes in tasks_by_filling(264, 2, False) + [("", "", ["1 = 0"]), ("a", "", ["a = 1"])]:
            task = Task(givens, gaps, wishes)
            for number in (0, 1, -1, 7, GREAT, -GREAT):
                self.refused(task, number)

    def test_what_is_told_is_the_askers_own(self):
        task = Task("ab", "xy", ["(x&a) = (a&b)"])
        for number in (0, 5, how_many(task) - 1):
            filling = filling_at(task, number)
            kept = list(filling)
            filling[0] = ("c",)
            filling.append(())
            self.assertEqual(filling_at(task, number), kept)
            self.assertEqual(number_of(task, kept), number)
        empty = filling_at(Task("a", "", []), 0)
        empty.append(())
        self.assertEqual(filling_at(Task("a", "", []), 0), [])

    def test_equal_tasks_tell_equal_things(self):
        for givens, gaps, wishes in tasks_by_filling(265, 1, True):
            task = Task(givens, gaps, wishes)
            again = Task(givens, gaps, list(wishes))
            number = how_many(task) // 2
            self.assertEqual(filling_at(task, number), filling_at(again, number))
            self.assertEqual(filling_at(task, number), filling_at(task, number))
            self.assertEqual(how_many(task), how_many(again))


class NumberOf(unittest.TestCase):

    def refused(self, task, filling):
        with self.assertRaises(NoFilling) as caught:
            number_of(task, filling)
        self.assertIs(type(caught.exception), NoFilling)

    def test_by_hand(self):
        task = Task("ab", "x", ["(x&a) = (a&b)"])
        self.assertEqual(number_of(task, [("ab",)]), 0)
        self.assertEqual(number_of(task, [("b",)]), 1)
        self.assertEqual(number_of(task, [("", "a", "ab")]), 3)
        for form in ((), ("",), ("a",), ("", "b"), ("a", "b")):
            self.refused(task, [form])
        task = Task("abc", "xyz", [])
        self.assertEqual(number_of(task, [(), (), ("",)]), sum(8 ** place for place in range(8)))
        self.assertEqual(number_of(task, [("",)] * 3), 8 ** 8 - 1)
        # Where c is true x is, and where a is z: by the octal figures 0 4 0 4 1 5 1 5.
        self.assertEqual(number_of(task, [("c",), (), ("a",)]), 0o04041515)

    def test_each_plain_filling_of_small_tasks(self):
        plains = {}
        both = {True: 0, False: 0}
        for givens, gaps, wishes in small_tasks():
            if (givens, gaps) not in plains:
                plains[(givens, gaps)] = plain_fillings(givens, gaps)
            task = Task(givens, gaps, wishes)
            doing = meant_to_do(givens, gaps, wishes)
            numbers = []
            for plain in plains[(givens, gaps)]:
                filled = fills(givens, gaps, doing, plain)
                both[filled] += 1
                if not filled:
                    self.refused(task, plain)
                    continue
                number = number_of(task, plain)
                self.assertIs(type(number), int)
                self.assertEqual(number, meant_number(givens, gaps, doing, plain), (givens, gaps, wishes, plain))
                self.assertEqual(filling_at(task, number), plain)
                numbers.append(number)
            # Just the numbers below how many there are, each once.
            self.assertEqual(sorted(numbers), list(range(how_many(task))))
        self.assertGreater(min(both.values()), 2000)

    def test_fillings_of_great_tasks(self):
        draws = chance(266)
        for givens, gaps, wishes in tasks_by_filling(267, 3, True):
            task = Task(givens, gaps, wishes)
            doing = meant_to_do(givens, gaps, wishes)
            for turn in range(3):
                plain = drawn_filling(draws, givens, gaps, doing)
                number = number_of(task, plain)
                self.assertEqual(number, meant_number(givens, gaps, doing, plain))
                self.assertTrue(0 <= number < how_many(task))
                self.assertEqual(filling_at(task, number), plain)

    def test_fillings_of_great_tasks_that_do_not_fill(self):
        draws = chance(268)
        both = {True: 0, False: 0}
        for givens, gaps, wishes in drawn_tasks(269, 3):
            task = Task(givens, gaps, wishes)
            doing = meant_to_do(givens, gaps, wishes)
            for turn in range(3):
                plain = [drawn_form(draws, givens, 8) for gap in gaps]
                filled = fills(givens, gaps, doing, plain)
                if filled:
                    self.assertEqual(number_of(task, plain), meant_number(givens, gaps, doing, plain))
                else:
                    self.refused(task, plain)
                both[filled] += 1
        self.assertGreater(min(both.values()), 100)

    def test_fillings_that_fail_at_one_row_alone(self):
        task = Task("abc", "xyz", ["(x&(y&z)) = 0"])
        for place in range(8):
            form = form_by("abc", [row == place for row in range(8)])
            self.refused(task, [form] * 3)
            self.assertEqual(filling_at(task, number_of(task, [form, form, ()])), [form, form, ()])

    def test_where_nothing_fills(self):
        for givens, gaps, wishes in tasks_by_filling(270, 2, False) + [("", "", ["1 = 0"]), ("a", "", ["a = 1"])]:
            task = Task(givens, gaps, wishes)
            self.refused(task, [() for gap in gaps])
            self.refused(task, [("",) for gap in gaps])

    def test_what_is_handed_in_stays(self):
        task = Task("a", "xy", ["(x&y) = 0"])
        for filling in ([("a",), ("", "a")], [("a",), ("",)], [(), ()]):
            kept = copy.deepcopy(filling)
            if task.fills(filling):
                number = number_of(task, filling)
                self.assertEqual(number_of(task, filling), number)
            else:
                self.refused(task, filling)
                self.refused(task, filling)
            self.assertEqual(filling, kept)

    def test_the_task_stays(self):
        task = Task("a", "xy", ["(x&y) = 0"])
        doing = task.doing()
        filling_at(task, number_of(task, [("a",), ()]))
        how_many(task)
        self.assertEqual((task.doing(), task.wishes()), (doing, ["(x&y) = 0"]))


if __name__ == "__main__":
    unittest.main()
