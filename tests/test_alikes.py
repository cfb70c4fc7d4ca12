import copy
import itertools
import unittest

from fillsay.alikes import gap_told
from fillsay.counting import how_many, number_of
from fillsay.errors import NoFilling, Strange
from fillsay.wishes import Task
from tests.helper import GAP_ROWS, GIVEN_ROWS, drawn_tasks, form_by, gap_rows_of, is_form, meant_to_do
from tests.helper import meant_to_fill, plain_fillings, row_at, small_tasks, true_by


def meant_truths(gaps, gap, doing):
    """At each given row the truths of the gap by the gap rows that do there."""
    return [{row_at(gaps, row)[gap] for row in there} for there in doing]


class GapTold(unittest.TestCase):

    def same(self, told, form):
        self.assertEqual(told, ("same", form))
        self.assertIsInstance(told, tuple)

    def apart(self, givens, gaps, wishes, gap, told):
        """Two plain fillings that fill, and part in the gap at the given row."""
        self.assertIsInstance(told, tuple)
        self.assertEqual((len(told), told[0]), (4, "apart"))
        row = told[3]
        self.assertIs(type(row), int)
        self.assertIn(row, range(2 ** len(givens)))
        for filling in told[1:3]:
            self.assertIsInstance(filling, list)
            self.assertEqual(len(filling), len(gaps))
            self.assertTrue(all(is_form(form) for form in filling))
            self.assertTrue(set("".join("".join(form) for form in filling)) <= set(givens))
            self.assertTrue(meant_to_fill(givens, gaps, wishes, filling))
        place = gaps.index(gap)
        truths = [true_by(filling[place], row_at(givens, row)) for filling in told[1:3]]
        self.assertNotEqual(truths[0], truths[1])

    def test_by_hand(self):
        for task, gap, form in (
                (Task("a", "x", ["x = a"]), "x", ("a",)), (Task("", "y", ["y = 1"]), "y", ("",)),
                (Task("", "z", ["1 = ~z"]), "z", ()), (Task("ab", "xy", ["x = (a|b)"]), "x", ("a", "ab", "b")),
                (Task("a", "xyz", ["(x&y) = 1", "z = (x+a)"]), "z", ("", "a")),
                (Task("a", "xyz", ["(x&y) = 1", "z = (x+a)"]), "y", ("",)),
                (Task("abc", "z", ["(z+a) = (b&c)"]), "z", ("a", "bc"))):
            self.same(gap_told(task, gap), form)
        for givens, gaps, wishes, gap in (
                ("", "x", [], "x"), ("a", "x", [], "x"), ("ab", "xy", ["x = (a|b)"], "y"),
                ("", "xy", ["(x&y) = 0"], "x"), ("", "xy", ["(x&y) = 0"], "y"), ("", "xy", ["x = y"], "x"),
                ("abc", "x", ["((a&(b&c))|x) = x"], "x")):
            self.apart(givens, gaps, wishes, gap, gap_told(Task(givens, gaps, wishes), gap))

    def test_apart_at_one_row_alone(self):
        # The gap is free at one given row and held by the wish at all others.
        for place, gaps in itertools.product(range(8), ("y", "xy", "yz", "xyz")):
            signs = [letter if truth else "~" + letter for letter, truth in row_at("abc", place).items()]
            here = "((" + signs[0] + "&" + signs[1] + ")&" + signs[2] + ")"
            wishes = ["(" + here + "|y) = (" + here + "|a)"]
            told = gap_told(Task("abc", gaps, wishes), "y")
            self.apart("abc", gaps, wishes, "y", told)
            self.assertEqual(told[3], place)

    def test_small_tasks_looked_at_one_by_one(self):
        plains = {}
        kinds = {"same": 0, "apart": 0, "none": 0}
        for givens, gaps, wishes in small_tasks():
            if (givens, gaps) not in plains:
                plains[(givens, gaps)] = plain_fillings(givens, gaps)
            doing = meant_to_do(givens, gaps, wishes)
            filled = [plain for plain in plains[(givens, gaps)]
                      if all(row in there for row, there in zip(gap_rows_of(givens, gaps, plain), doing))]
            task = Task(givens, gaps, wishes)
            for place, gap in enumerate(gaps):
                forms = {plain[place] for plain in filled}
                if not forms:
                    self.refused(task, gap)
                    kinds["none"] += 1
                    continue
                told = gap_told(task, gap)
                if len(forms) == 1:
                    self.same(told, filled[0][place])
                else:
                    self.apart(givens, gaps, wishes, gap, told)
                    self.assertIn(told[1], filled)
                    self.assertIn(told[2], filled)
                kinds[told[0]] += 1
        self.assertGreater(min(kinds.values()), 100)

    def test_tasks_over_all_rows_of_letters(self):
        kinds = {"same": 0, "apart": 0, "none": 0}
        for givens, gaps, wishes in drawn_tasks(271, 6):
            doing = meant_to_do(givens, gaps, wishes)
            task = Task(givens, gaps, wishes)
            for gap in gaps:
                if [] in doing:
                    self.refused(task, gap)
                    kinds["none"] += 1
                    continue
                told = gap_told(task, gap)
                truths = meant_truths(gaps, gap, doing)
                if all(len(there) == 1 for there in truths):
                    self.same(told, form_by(givens, [True in there for there in truths]))
                else:
                    self.apart(givens, gaps, wishes, gap, told)
                kinds[told[0]] += 1
        self.assertGreater(min(kinds.values()), 30)

    def test_one_filling_fills_all_gaps_alike(self):
        for givens, gaps in itertools.product(GIVEN_ROWS, GAP_ROWS):
            wishes = [gap + " = " + (givens[-1:] or "1") for gap in gaps]
            task = Task(givens, gaps, wishes)
            self.assertEqual(how_many(task), 1)
            for gap in gaps:
                self.same(gap_told(task, gap), (givens[-1:],))

    def refused(self, task, gap):
        with self.assertRaises(NoFilling) as caught:
            gap_told(task, gap)
        self.assertIs(type(caught.exception), NoFilling)

    def strange(self, task, gap):
        with self.assertRaises(Strange) as caught:
            gap_told(task, gap)
        self.assertIs(type(caught.exception), Strange)
        self.assertEqual(caught.exception.letter, gap)

    def test_gaps_that_are_none_of_the_tasks(self):
        texts = ["", " ", "a", "b", "c", "p", "q", "r", "x", "y", "z", "d", "X", "xy", "yz", "xz", "xyz", "yx", "xx",
                 "x ", " x", "x = a", "-", "0", "1", "~x", "(x", "x" * 200, "gap"]
        for givens, gaps in itertools.product(("", "a", "abc"), GAP_ROWS):
            # Something fills by the first, nothing by the others.
            for wishes in ([], ["1 = 0"], ["1 = 1", "0 = 1"]):
                task = Task(givens, gaps, wishes)
                for text in texts:
                    if text not in list(gaps):
                        self.strange(task, text)

    def test_nothing_fills(self):
        for givens, gaps in itertools.product(GIVEN_ROWS, GAP_ROWS):
            for wish in ["1 = 0"] + [letter + " = 0" for letter in givens]:
                for gap in gaps:
                    self.refused(Task(givens, gaps, [wish]), gap)
        self.refused(Task("abc", "xyz", ["((a&b)&c) = 0"]), "x")
        # The gap asked for could be filled, but another one can't.
        self.refused(Task("a", "xy", ["x = a", "y = ~y"]), "x")

    def test_what_is_told_is_the_askers_own(self):
        task = Task("a", "xy", ["(x&y) = 0"])
        told = gap_told(task, "x")
        kept = copy.deepcopy(told)
        self.assertIsNot(told[1], told[2])
        told[1][0] = ("c",)
        told[1].append(("b",))
        self.assertEqual(told[2], kept[2])
        told[2].clear()
        self.assertEqual(gap_told(task, "x"), kept)
        self.assertEqual(gap_told(Task("a", "xy", ["(x&y)=0"]), "x"), kept)
        self.assertEqual(task.wishes(), ["(x&y) = 0"])

    def test_what_is_told_may_be_handed_in(self):
        for givens, gaps, wishes in drawn_tasks(272, 1):
            task = Task(givens, gaps, wishes)
            for gap in gaps if how_many(task) > 1 else "":
                told = gap_told(task, gap)
                if told[0] == "apart":
                    self.assertTrue(task.fills(told[1]) and task.fills(told[2]))
                    self.assertNotEqual(number_of(task, told[1]), number_of(task, told[2]))
                    self.assertGreater(len(task.doing()[told[3]]), 1)


if __name__ == "__main__":
    unittest.main()
