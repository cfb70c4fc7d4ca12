import copy
import itertools
import unittest

from fillsay.papers import paper_of, stands
from fillsay.several import free_of, widest_filling
from fillsay.wishes import Task
from tests.helper import GAP_ROWS, GIVEN_ROWS, LETTERS, all_forms, all_rows, chance, drawn_form, drawn_tasks, fails
from tests.helper import form_by, full_form, gap_rows_of, gap_rows_out_of, meant_to_do, meant_to_fill, plain_fillings
from tests.helper import row_at, small_tasks, truths_of, wish_with_fault

GREAT = 10 ** 60 - 1


def failing(givens, gaps, wishes, given_row):
    """For each gap row the numbers of the wishes that fail there."""
    told = []
    for gap_row in range(2 ** len(gaps)):
        row = {**row_at(givens, given_row), **row_at(gaps, gap_row)}
        told.append([number for number, wish in enumerate(wishes) if fails([wish], row)])
    return told


def nothing_paper(givens, gaps, wishes):
    """The paper that nothing fills, straight from the wishes' texts."""
    doing = meant_to_do(givens, gaps, wishes)
    rows = [row for row, there in enumerate(doing) if there == []]
    table = [[numbers[0] for numbers in failing(givens, gaps, wishes, row)] for row in rows]
    return ("nothing", rows, form_by(givens, [there == [] for there in doing]), table)


def is_widest(givens, gaps, wishes, filling, plains):
    """Straight from points 18 and 21, plains being all plain fillings."""
    if not meant_to_fill(givens, gaps, wishes, filling):
        return False
    doing = meant_to_do(givens, gaps, wishes)
    for plain in plains:
        own = gap_rows_of(givens, gaps, plain)
        fills = all(row in there for row, there in zip(own, doing))
        if fills and gap_rows_out_of(givens, gaps, filling, plain) != own:
            return False
    return True


def tasks_filled_by_nothing(seed, turns):
    return [(givens, gaps, wishes) for givens, gaps, wishes in drawn_tasks(seed, turns)
            if [] in meant_to_do(givens, gaps, wishes)]


class PaperOf(unittest.TestCase):

    def test_by_hand(self):
        for task, paper in (
                (Task("", "", []), ("filled", [])),
                (Task("abc", "", []), ("filled", [])),
                (Task("a", "x", ["x = a"]), ("filled", [("a",)])),
                (Task("", "xz", []), ("filled", [("p",), ("r",)])),
                (Task("ab", "x", ["(x&a) = (a&b)"]), ("filled", [("ab", "ap", "p")])),
                (Task("", "", ["1 = 0"]), ("nothing", [0], ("",), [[0]])),
                (Task("", "", ["1 = 1", "1 = 0", "0 = 1"]), ("nothing", [0], ("",), [[1]])),
                (Task("a", "", ["a = 1"]), ("nothing", [0], ("", "a"), [[0]])),
                (Task("ab", "", ["1 = 1", "a = b"]), ("nothing", [1, 2], ("a", "b"), [[1], [1]])),
                (Task("a", "x", ["x = a", "x = ~a"]), ("nothing", [0, 1], ("",), [[1, 0], [0, 1]])),
                (Task("a", "x", ["(x&a) = 1"]), ("nothing", [0], ("", "a"), [[0, 0]])),
                (Task("ab", "xy", ["x = a", "y = b", "(x&y) = 0"]),
                 ("nothing", [3], ("ab",), [[0, 0, 1, 2]])),
                (Task("", "xyz", ["x = y", "y = z", "z = ~x"]),
                 ("nothing", [0], ("",), [[2, 1, 0, 0, 0, 0, 1, 2]])),
                (Task("bc", "y", ["y = b", "c = y"]), ("nothing", [1, 2], ("b", "c"), [[1, 0], [0, 1]]))):
            self.assertEqual(paper_of(task), paper)

    def test_small_tasks_of_each_fault(self):
        kinds = {"filled": 0, "nothing": 0}
        plains = {}
        for givens, gaps, wishes in small_tasks():
            if (givens, gaps) not in plains:
                plains[(givens, gaps)] = plain_fillings(givens, gaps)
            paper = paper_of(Task(givens, gaps, wishes))
            self.assertIsInstance(paper, tuple)
            if [] in meant_to_do(givens, gaps, wishes):
                self.assertEqual(paper, nothing_paper(givens, gaps, wishes))
            else:
                self.assertEqual((len(paper), paper[0], len(paper[1])), (2, "filled", len(gaps)))
                self.assertTrue(is_widest(givens, gaps, wishes, paper[1], plains[(givens, gaps)]))
            kinds[paper[0]] += 1
        self.assertGreater(min(kinds.values()), 200)

    def test_tasks_over_all_rows_of_letters(self):
        kinds = {"filled": 0, "nothing": 0}
        for givens, gaps, wishes in drawn_tasks(23, 4):
            task = Task(givens, gaps, wishes)
            paper = paper_of(task)
            if [] in meant_to_do(givens, gaps, wishes):
                self.assertEqual(paper, nothing_paper(givens, gaps, wishes), (givens, gaps, wishes))
                self.assertTrue(set("".join(paper[2])) <= set(givens))
                truths = [row in paper[1] for row in range(2 ** len(givens))]
                self.assertEqual(truths_of(paper[2], all_rows(givens)), truths)
            else:
                self.assertEqual(paper, ("filled", widest_filling(task)))
            kinds[paper[0]] += 1
        self.assertGreater(min(kinds.values()), 60)

    def test_the_first_of_several_failing_wishes_is_named(self):
        task = Task("a", "x", ["1 = 1", "x = ~x", "1 = 0", "a = ~a"])
        self.assertEqual(paper_of(task), ("nothing", [0, 1], ("",), [[1, 1], [1, 1]]))
        task = Task("a", "x", ["(x&a) = ~x", "1 = 0", "x = ~x"])
        self.assertEqual(paper_of(task), ("nothing", [0, 1], ("",), [[0, 1], [0, 0]]))

    def test_what_is_told_is_the_askers_own(self):
        task = Task("a", "xy", ["(x|y) = a"])
        told = paper_of(task)
        kept = copy.deepcopy(told)
        self.assertIsNot(paper_of(task)[1], told[1])
        told[1][0] = ()
        told[1].append(())
        self.assertEqual(paper_of(task), kept)
        nothing = Task("ab", "x", ["a = b", "x = ~x"])
        told = paper_of(nothing)
        kept = copy.deepcopy(told)
        again = paper_of(nothing)
        self.assertIsNot(again[1], told[1])
        self.assertIsNot(again[3], told[3])
        self.assertIsNot(again[3][0], told[3][0])
        told[1].clear()
        told[3][0].append(7)
        told[3][1].clear()
        self.assertEqual(again, kept)
        self.assertEqual(paper_of(nothing), kept)
        told[3].clear()
        self.assertEqual(paper_of(nothing), kept)
        empty = Task("", "", [])
        paper_of(empty)[1].append(())
        self.assertEqual(paper_of(empty), ("filled", []))

    def test_the_lists_of_the_table_are_unlike_ones(self):
        told = paper_of(Task("a", "x", ["1 = 0"]))
        told[3][0].append(5)
        self.assertEqual(told[3], [[0, 0, 5], [0, 0]])

    def test_asked_again_it_answers_the_same(self):
        for givens, gaps, wishes in drawn_tasks(231, 1):
            task = Task(givens, gaps, wishes)
            told = paper_of(task)
            self.assertEqual(paper_of(task), told)
            self.assertEqual(paper_of(Task(givens, gaps, list(wishes))), told)

    def test_the_task_stays(self):
        for wishes in (["(x|y) = a"], ["(x|y) = a", "x = y", "y = 0"]):
            task = Task("a", "xy", wishes)
            told = (task.givens(), task.gaps(), task.wishes(), task.sides(), task.fault(), task.doing())
            paper = paper_of(task)
            self.assertIs(stands(task, paper), True)
            self.assertEqual((task.givens(), task.gaps(), task.wishes(), task.sides(), task.fault(), task.doing()),
                             told)


class Stands(unittest.TestCase):

    def test_what_paper_of_tells(self):
        kinds = {"filled": 0, "nothing": 0}
        for givens, gaps, wishes in drawn_tasks(24, 3) + small_tasks()[::3]:
            task = Task(givens, gaps, wishes)
            paper = paper_of(task)
            self.assertIs(stands(task, paper), True, (givens, gaps, wishes))
            self.assertIs(stands(task, copy.deepcopy(paper)), True)
            self.assertIs(stands(Task(givens, gaps, wishes), eval(repr(paper))), True)
            kinds[paper[0]] += 1
        self.assertGreater(min(kinds.values()), 60)

    def test_papers_of_other_tasks(self):
        draws = chance(241)
        tasks = [Task("ab", "xy", wishes) for givens, gaps, wishes in drawn_tasks(242, 40)
                 if (givens, gaps) == ("ab", "xy")]
        both = {True: 0, False: 0}
        for one, other in itertools.product(tasks, draws.sample(tasks, 10)):
            paper = paper_of(other)
            if paper[0] == "filled":
                truth = self.by_rows(one, paper[1])
            else:
                truth = self.nothing_by_rows("ab", "xy", one.wishes(), paper)
            self.assertIs(stands(one, paper), truth)
            both[truth] += 1
        self.assertGreater(min(both.values()), 10)

    def by_rows(self, task, filling):
        """What is widest does by each row, and gives back each gap row that does."""
        free = free_of(task.gaps())
        for given_row, there in enumerate(meant_to_do(task.givens(), task.gaps(), task.wishes())):
            for free_row in range(2 ** len(free)):
                row = {**row_at(task.givens(), given_row), **row_at(free, free_row)}
                truths = [truth for form in filling for truth in truths_of(form, [row])]
                came = sum(2 ** place for place, truth in enumerate(reversed(truths)) if truth)
                if came not in there or (free_row in there and came != free_row):
                    return False
        return True

    def nothing_by_rows(self, givens, gaps, wishes, paper):
        right = nothing_paper(givens, gaps, wishes)
        if right[1] == [] or paper[1:3] != right[1:3] or len(paper[3]) != len(right[1]):
            return False
        for row, numbers in zip(paper[1], paper[3]):
            there = failing(givens, gaps, wishes, row)
            if len(numbers) != len(there) or not all(number in some for number, some in zip(numbers, there)):
                return False
        return True


class StandsFilled(unittest.TestCase):

    def told(self, task, filling, truth):
        self.assertIs(stands(task, ("filled", filling)), truth, (task.wishes(), filling))

    def test_by_hand(self):
        task = Task("ab", "x", ["(x&a) = (a&b)"])
        self.told(task, [("ab", "ap", "p")], True)
        for filling in ([("b",)], [("ab",)], [("p",)], [()], [("",)], [("ap", "p")], [("ab", "p")], [("", "ap", "p")]):
            self.told(task, filling, False)

    def test_several_widest_fillings_stand(self):
        # Neither gap's row 3 does, so it may be led to each of the other three.
        task = Task("", "xy", ["(x&y) = 0"])
        for filling in ([("p",), ("pq", "q")], [("p", "pq"), ("q",)], [("p", "pq"), ("pq", "q")]):
            self.told(task, filling, True)
        for filling in ([("p",), ("q",)], [("p",), ()], [(), ("q",)], [(), ()], [("pq",), ("q",)]):
            self.told(task, filling, False)

    def test_what_fills_but_is_not_widest(self):
        for task, filling in (
                (Task("a", "x", []), [("a",)]),
                (Task("a", "x", []), [()]),
                (Task("a", "x", []), [("", "p")]),
                (Task("a", "x", []), [("a", "p")]),
                (Task("a", "x", []), [("ap",)]),
                (Task("", "xy", []), [("q",), ("p",)]),
                (Task("", "xy", []), [("p",), ("p",)]),
                (Task("", "xy", ["x = y"]), [(), ()]),
                (Task("", "xy", ["x = ~y"]), [("",), ()]),
                (Task("a", "xy", ["(x|y) = a"]), [("a",), ("a",)]),
                (Task("ab", "x", ["(x&a) = (a&b)"]), [("b",)]),
                (Task("ab", "x", ["(x&a) = (a&b)"]), [("ab",)])):
            self.assertIs(task.fills(filling), True)
            self.told(task, filling, False)

    def test_one_plain_filling_alone_does_not_come(self):
        # All come but those that have the gap rows 1 or 2 at the row where a is true.
        task = Task("a", "xy", ["(x|y) = a"])
        right = widest_filling(task)
        self.told(task, right, True)
        self.told(task, [("a",), ("aq",)], False)
        self.told(task, [("ap",), ("a",)], False)
        self.told(task, [("ap",), ("a", "ap", "apq")], True)

    def test_what_does_not_fill(self):
        for task, filling in ((Task("a", "x", ["x = a"]), [("p",)]), (Task("a", "x", ["x = a"]), [("", "a")]),
                              (Task("", "xy", ["x = y"]), [("p",), ("q",)]),
                              (Task("", "xyz", ["(x&(y&z)) = 0"]), [("p",), ("q",), ("r",)]),
                              (Task("abc", "z", ["(z&(a&(b&c))) = 0"]), [("r",)])):
            self.assertIs(task.fills(filling), False)
            self.told(task, filling, False)

    def test_too_few_and_too_many_forms(self):
        for givens, gaps in itertools.product(("", "ab", "abc"), GAP_ROWS):
            for wishes in ([], ["1 = 1"]):
                task = Task(givens, gaps, wishes)
                right = [(letter,) for letter in free_of(gaps)]
                self.told(task, right, True)
                for more in ((), ("",), ("p",), ("r",), ("x",)):
                    self.told(task, right + [more], False)
                    self.told(task, [more] + right, False)
                self.told(task, right + [()] * 100, False)
                for size in range(len(gaps)):
                    self.told(task, right[:size], False)
                    self.told(task, right[len(gaps) - size:], False)

    def test_other_letters(self):
        # By this task either truth will do for y, where p and q are both true.
        for givens, gaps, others in (("ab", "xy", "crxyz"), ("", "xy", "abcrxyz"), ("abc", "xy", "rxyz")):
            task = Task(givens, gaps, ["(x&y) = 0"])
            for letter in "abcrxyz":
                product = "".join(sorted("pq" + letter))
                filling = [("p", "pq"), tuple(sorted(("pq", product, "q")))]
                self.told(task, filling, letter not in others)

    def test_other_letters_that_make_no_difference_to_filling(self):
        for letter, letters in (("a", "bcqrxyz"), ("c", "abqrxyz")):
            task = Task(letter, "x", [])
            self.told(task, [("p",)], True)
            for other in letters:
                self.told(task, [(other,)], False)
                self.told(task, [tuple(sorted(("p", other)))], False)
        self.told(Task("", "y", []), [("p",)], False)
        self.told(Task("", "z", []), [("q",)], False)
        self.told(Task("", "y", []), [("y",)], False)
        self.told(Task("", "xz", []), [("p",), ("q",)], False)

    def test_nothing_fills(self):
        draws = chance(243)
        for givens, gaps, wishes in tasks_filled_by_nothing(244, 1):
            task = Task(givens, gaps, wishes)
            free = free_of(gaps)
            self.told(task, [(letter,) for letter in free], False)
            self.told(task, [() for gap in gaps], False)
            self.told(task, [], False)
            for turn in range(3):
                self.told(task, [drawn_form(draws, givens + free, 64) for gap in gaps], False)
        self.told(Task("", "", ["1 = 0"]), [], False)
        self.told(Task("", "", ["1 = 1"]), [], True)

    def looked_through(self, givens, gaps, tasks, fillings):
        plains = plain_fillings(givens, gaps)
        both = {True: 0, False: 0}
        for wishes in tasks:
            task = Task(givens, gaps, wishes)
            for filling in fillings:
                truth = is_widest(givens, gaps, wishes, filling, plains)
                self.assertIs(stands(task, ("filled", filling)), truth, (givens, gaps, wishes, filling))
                both[truth] += 1
        return both

    def test_all_fillings_of_small_tasks(self):
        for givens, gaps in (("", "x"), ("b", "y"), ("", "xy")):
            tasks = [[wish_with_fault(form)] for form in all_forms(givens + gaps)]
            forms = all_forms(givens + free_of(gaps))
            fillings = [list(some) for some in itertools.product(forms, repeat=len(gaps))]
            both = self.looked_through(givens, gaps, tasks, fillings)
            self.assertGreater(min(both.values()), 2)

    def test_fillings_told_and_fillings_near_them(self):
        draws = chance(245)
        for givens, gaps in (("ac", "x"), ("b", "xz"), ("", "xyz")):
            both = {True: 0, False: 0}
            for form in all_forms(givens + gaps)[::9]:
                wishes = [wish_with_fault(form)]
                right = widest_filling(Task(givens, gaps, wishes))
                if right is None:
                    continue
                letters = givens + free_of(gaps)
                fillings = [right]
                for turn in range(8):
                    near = [truths_of(one, all_rows(letters)) for one in right]
                    gap = draws.randrange(len(gaps))
                    row = draws.randrange(2 ** len(letters))
                    near[gap][row] = not near[gap][row]
                    fillings.append([form_by(letters, truths) for truths in near])
                told = self.looked_through(givens, gaps, [wishes], fillings)
                both = {truth: both[truth] + told[truth] for truth in both}
            self.assertGreater(min(both.values()), 5)

    def test_great_forms_and_many(self):
        full = full_form(LETTERS)
        for givens, gaps in itertools.product(GIVEN_ROWS, GAP_ROWS):
            for wishes in ([], ["1 = 0"]):
                task = Task(givens, gaps, wishes)
                for size in (1, 2, 3, 100):
                    self.told(task, [full] * size, False)
        self.told(Task("abc", "xyz", []), [full_form("abcpqr")] * 3, False)
        self.told(Task("abc", "xyz", []), [()] * 100000, False)

    def test_what_is_handed_in_stays(self):
        for filling in ([("p",), ("pq", "q")], [("p",), ("q",)], [("r",), ("q",)], [()], [()] * 4):
            paper = ("filled", list(filling))
            task = Task("", "xy", ["(x&y) = 0"])
            truth = stands(task, paper)
            self.assertEqual(paper, ("filled", filling))
            self.assertIs(stands(task, paper), truth)


class StandsNothing(unittest.TestCase):

    def setUp(self):
        # Nothing does at the given rows 1, 2 and 3: the wish 0 fails at 1 and 2, the wish 1 at 3 by the gap row 0,
        # the wish 2 at 3 by the gap row 1, and the wish 3 at 3 by both.
        self.wishes = ["a = b", "((a&b)&~x) = 0", "0 = ((a&b)&x)", "(b&a) = 0"]
        self.task = Task("ab", "x", self.wishes)
        self.rows = [1, 2, 3]
        self.form = ("a", "ab", "b")
        self.table = [[0, 0], [0, 0], [1, 2]]

    def told(self, rows, form, table, truth):
        self.assertIs(stands(self.task, ("nothing", rows, form, table)), truth, (rows, form, table))

    def test_the_right_one(self):
        self.assertEqual(paper_of(self.task), ("nothing", self.rows, self.form, self.table))
        self.told(self.rows, self.form, self.table, True)

    def test_other_wishes_that_fail_there(self):
        for table in ([[0, 0], [0, 0], [3, 2]], [[0, 0], [0, 0], [1, 3]], [[0, 0], [0, 0], [3, 3]]):
            self.told(self.rows, self.form, table, True)

    def test_wishes_that_do_not_fail_there(self):
        for place, gap_row, number in itertools.product(range(3), range(2), range(4)):
            table = copy.deepcopy(self.table)
            table[place][gap_row] = number
            there = failing("ab", "x", self.wishes, self.rows[place])[gap_row]
            self.told(self.rows, self.form, table, number in there)

    def test_numbers_of_no_wish(self):
        for number in (-1, -2, -3, -4, -5, 4, 5, 6, 7, 100, GREAT, -GREAT, 10 ** 300, -10 ** 300):
            for place, gap_row in itertools.product(range(3), range(2)):
                table = copy.deepcopy(self.table)
                table[place][gap_row] = number
                self.told(self.rows, self.form, table, False)
            self.told(self.rows, self.form, [[number] * 2] * 3, False)

    def test_too_many_rows(self):
        # The wish 0 does not fail at the given row 0, but a table has to name some.
        for number in range(4):
            table = [[number, number]] + self.table
            self.told([0, 1, 2, 3], self.form, table, False)
            self.told([0, 1, 2, 3], ("",), table, False)
        for number in (4, 5, 8, GREAT, -1, -4, -GREAT):
            for one in ([0, 0], [3, 3], [1, 2]):
                self.told(self.rows + [number], self.form, self.table + [one], False)
                self.told([number] + self.rows, self.form, [one] + self.table, False)

    def test_too_few_rows(self):
        for places in ((0, 1), (0, 2), (1, 2), (0,), (1,), (2,), ()):
            rows = [self.rows[place] for place in places]
            table = [self.table[place] for place in places]
            form = form_by("ab", [row in rows for row in range(4)])
            self.told(rows, form, table, False)
            self.told(rows, self.form, table, False)
            self.told(rows, form, self.table, False)
            self.told(rows, self.form, self.table, False)

    def test_rows_out_of_order(self):
        for places in itertools.permutations(range(3)):
            rows = [self.rows[place] for place in places]
            table = [self.table[place] for place in places]
            self.told(rows, self.form, table, places == (0, 1, 2))

    def test_rows_told_twice(self):
        for place in range(3):
            rows = self.rows[:place] + [self.rows[place]] + self.rows[place:]
            table = self.table[:place] + [self.table[place]] + self.table[place:]
            self.told(rows, self.form, table, False)
        self.told(self.rows * 2, self.form, self.table * 2, False)

    def test_rows_below_nothing_or_too_great(self):
        # These numbers have the same truths at the places of the letters as the right ones.
        for far in (4, -4, 8, -8, 4 * GREAT, -4 * GREAT, 2 ** 300, -2 ** 300):
            self.told([row + far for row in self.rows], self.form, self.table, False)
            for place in range(3):
                rows = list(self.rows)
                rows[place] += far
                self.told(rows, self.form, self.table, False)
                self.told(sorted(rows), self.form, self.table, False)
        for number in (0, -1, GREAT, -GREAT):
            self.told([number], self.form, [[0, 0]], False)

    def test_another_form(self):
        for form in all_forms("ab"):
            self.told(self.rows, form, self.table, form == self.form)
        for form in (("a", "ab", "b", "c"), ("a", "ab", "b", "x"), ("a", "ab", "b", "p"), ("x",), ("ax", "bx"),
                     full_form("abcxyz"), full_form(LETTERS)):
            self.told(self.rows, form, self.table, False)

    def test_too_few_and_too_many_lists(self):
        self.told(self.rows, self.form, [], False)
        for size in range(3):
            self.told(self.rows, self.form, self.table[:size], False)
            self.told(self.rows, self.form, self.table[size + 1:], False)
        for more in ([], [0, 0], [1, 2], [3, 3], [GREAT]):
            self.told(self.rows, self.form, self.table + [more], False)
            self.told(self.rows, self.form, [more] + self.table, False)
        self.told(self.rows, self.form, self.table + [[0, 0]] * 97, False)

    def test_too_few_and_too_many_numbers(self):
        for place in range(3):
            for numbers in ([], self.table[place][:1], self.table[place][1:], self.table[place] + [0],
                            self.table[place] + [3], [0] + self.table[place], self.table[place] * 2,
                            self.table[place] + [GREAT]):
                table = copy.deepcopy(self.table)
                table[place] = numbers
                self.told(self.rows, self.form, table, False)
        self.told(self.rows, self.form, [[], [], []], False)

    def test_no_gaps_have_one_gap_row(self):
        task = Task("a", "", ["1 = 1", "a = 1"])
        self.assertIs(stands(task, ("nothing", [0], ("", "a"), [[1]])), True)
        for table in ([[]], [], [[0]], [[1, 1]], [[2]], [[-1]], [[1], [1]]):
            self.assertIs(stands(task, ("nothing", [0], ("", "a"), table)), False)

    def test_no_givens_have_one_given_row(self):
        task = Task("", "x", ["x = ~x", "1 = 0"])
        for table in itertools.product((0, 1), repeat=2):
            self.assertIs(stands(task, ("nothing", [0], ("",), [list(table)])), True)
        for rows, form, table in (([], ("",), []), ([1], ("",), [[0, 0]]), ([0], (), [[0, 0]]),
                                  ([0, 0], ("",), [[0, 0]] * 2), ([-1], ("",), [[0, 0]]), ([0], ("x",), [[0, 0]]),
                                  ([0], ("", "x"), [[0, 0]])):
            self.assertIs(stands(task, ("nothing", rows, form, table)), False)

    def test_something_fills(self):
        for givens, gaps, wishes in drawn_tasks(246, 1) + [("", "", []), ("a", "x", []), ("abc", "xyz", [])]:
            doing = meant_to_do(givens, gaps, wishes)
            if [] in doing:
                continue
            task = Task(givens, gaps, wishes)
            count = 2 ** len(gaps)
            for rows, form, table in (([], (), []), ([0], (), [[0] * count]), ([], ("",), []), ([], (), [[]]),
                                      ([0], form_by(givens, [row == 0 for row in range(2 ** len(givens))]),
                                       [[0] * count]),
                                      (list(range(2 ** len(givens))), ("",), [[0] * count] * 2 ** len(givens))):
                self.assertIs(stands(task, ("nothing", rows, form, table)), False, (givens, gaps, wishes))

    def test_drawn_papers(self):
        draws = chance(247)
        for givens, gaps, wishes in tasks_filled_by_nothing(248, 2):
            task = Task(givens, gaps, wishes)
            right = nothing_paper(givens, gaps, wishes)
            for turn in range(4):
                paper = copy.deepcopy(right)
                truth = True
                for row, numbers in zip(paper[1], paper[3]):
                    for gap_row, there in enumerate(failing(givens, gaps, wishes, row)):
                        numbers[gap_row] = draws.choice(there)
                        if draws.randrange(20) == 0:
                            numbers[gap_row] = draws.randint(-1, len(wishes))
                            truth = truth and numbers[gap_row] in there
                self.assertIs(stands(task, paper), truth, (givens, gaps, wishes, paper))

    def test_many_numbers(self):
        many = list(range(100000))
        self.told(many, self.form, self.table, False)
        self.told(self.rows, self.form, [many] * 3, False)
        self.told(self.rows, self.form, [[0, 0]] * 100000, False)

    def test_what_is_handed_in_stays(self):
        for rows, table in ((self.rows, self.table), ([3, 2, 1], self.table), (self.rows, [[0, 0], [0, 0], [0, 0]]),
                            (self.rows, [[0, 0], [0]]), ([], [])):
            paper = ("nothing", rows, self.form, table)
            kept = copy.deepcopy(paper)
            truth = stands(self.task, paper)
            self.assertEqual(paper, kept)
            self.assertIs(stands(self.task, paper), truth)


if __name__ == "__main__":
    unittest.main()
