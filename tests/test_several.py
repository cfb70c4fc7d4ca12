import itertools
import unittest

from fillsay.onegap import rest_of
from fillsay.putting import every_of
from fillsay.several import filler, free_of, widest_filling
from fillsay.wishes import Task
from tests.helper import FREE, GAP_ROWS, GIVEN_ROWS, LETTERS, all_forms, all_rows, chance, drawn_filling
from tests.helper import drawn_form, drawn_tasks, drawn_wish, full_form, gap_rows_of, gap_rows_out_of, is_form
from tests.helper import meant_to_do, meant_to_fill, plain_fillings, small_tasks, true_by, truths_of
from tests.helper import wish_with_fault


class Free(unittest.TestCase):

    def test_each_row_of_gaps(self):
        told = {"": "", "x": "p", "y": "q", "z": "r", "xy": "pq", "xz": "pr", "yz": "qr", "xyz": "pqr"}
        self.assertEqual(sorted(told), sorted(GAP_ROWS))
        for gaps, free in told.items():
            self.assertEqual(free_of(gaps), free)


class WidestFilling(unittest.TestCase):

    def is_a_filling(self, givens, gaps, filling):
        self.assertIsInstance(filling, list)
        self.assertEqual(len(filling), len(gaps))
        for form in filling:
            self.assertTrue(is_form(form), form)
            self.assertTrue(set("".join(form)) <= set(givens + "".join(FREE[gap] for gap in gaps)), form)

    def looked_at(self, givens, gaps, wishes, plains):
        """Whether there is a widest filling: held against what the wishes' texts and these plain fillings tell."""
        task = Task(givens, gaps, wishes)
        filling = widest_filling(task)
        doing = meant_to_do(givens, gaps, wishes)
        if [] in doing:
            self.assertIsNone(filling, (givens, gaps, wishes))
            return False
        self.is_a_filling(givens, gaps, filling)
        self.assertIs(task.fills(filling), True, (givens, gaps, wishes))
        self.assertTrue(meant_to_fill(givens, gaps, wishes, filling), (givens, gaps, wishes))
        for plain in plains:
            own = gap_rows_of(givens, gaps, plain)
            comes = gap_rows_out_of(givens, gaps, filling, plain)
            self.assertTrue(all(row in there for row, there in zip(comes, doing)), (givens, gaps, wishes, plain))
            fills = all(row in there for row, there in zip(own, doing))
            self.assertEqual(comes == own, fills, (givens, gaps, wishes, plain))
        return True

    def test_by_hand(self):
        # Where the wishes leave no choice, there is but one widest filling.
        self.assertEqual(widest_filling(Task("a", "x", ["x = a"])), [("a",)])
        self.assertEqual(widest_filling(Task("ab", "xy", ["x = (a&b)", "~y = a"])), [("ab",), ("", "a")])
        self.assertEqual(widest_filling(Task("", "xyz", ["x = 1", "y = 0", "z = ~y"])), [("",), (), ("",)])
        # Where each gap row does, all have to come of themselves.
        self.assertEqual(widest_filling(Task("", "x", [])), [("p",)])
        self.assertEqual(widest_filling(Task("ac", "xz", [])), [("p",), ("r",)])
        self.assertEqual(widest_filling(Task("abc", "xyz", ["x = x"])), [("p",), ("q",), ("r",)])
        self.assertEqual(widest_filling(Task("abc", "y", ["(a|y) = (y|a)"])), [("q",)])
        # A gap alone at which just one row or each one does.
        self.assertEqual(widest_filling(Task("ab", "x", ["(x&a) = (a&b)"])), [("ab", "ap", "p")])
        self.assertEqual(widest_filling(Task("a", "z", ["(z|a) = z"])), [("a", "ar", "r")])
        # There is none.
        self.assertIsNone(widest_filling(Task("a", "x", ["x = a", "x = ~a"])))
        self.assertIsNone(widest_filling(Task("a", "x", ["(x&a) = 1"])))
        self.assertIsNone(widest_filling(Task("ab", "xy", ["(x&(a&y)) = b"])))
        self.assertIsNone(widest_filling(Task("", "x", ["x = ~x"])))

    def test_no_gaps(self):
        for givens in GIVEN_ROWS:
            self.assertEqual(widest_filling(Task(givens, "", [])), [])
            self.assertEqual(widest_filling(Task(givens, "", ["1 = ~0", "0 = 0"])), [])
            self.assertIsNone(widest_filling(Task(givens, "", ["1 = 1", "1 = 0"])))
        self.assertEqual(widest_filling(Task("ab", "", ["(a&b) = (b&a)"])), [])
        self.assertIsNone(widest_filling(Task("ab", "", ["a = b"])))
        self.assertIsNone(widest_filling(Task("abc", "", ["(a&(b&c)) = 0"])))
        for form in all_forms("ab"):
            told = widest_filling(Task("ab", "", [wish_with_fault(form)]))
            self.assertEqual(told, [] if form == () else None, form)

    def test_without_wishes(self):
        for givens, gaps in itertools.product(GIVEN_ROWS, GAP_ROWS):
            self.assertEqual(widest_filling(Task(givens, gaps, [])), [(FREE[gap],) for gap in gaps])

    def test_small_tasks_of_each_fault_with_all_plain_fillings(self):
        plains = {}
        both = {True: 0, False: 0}
        for givens, gaps, wishes in small_tasks():
            if (givens, gaps) not in plains:
                plains[(givens, gaps)] = plain_fillings(givens, gaps)
            both[self.looked_at(givens, gaps, wishes, plains[(givens, gaps)])] += 1
        self.assertGreater(min(both.values()), 200)

    def test_the_small_tasks_have_these_faults(self):
        told = iter(small_tasks())
        for letters in ("", "a", "ab", "x", "yz", "by", "acx", "bxz", "xyz"):
            for form in all_forms(letters):
                givens, gaps, wishes = next(told)
                self.assertEqual(givens + gaps, letters)
                self.assertEqual(Task(givens, gaps, wishes).fault(), form)
        self.assertEqual(list(told), [])

    def test_tasks_over_all_rows_of_letters(self):
        draws = chance(211)
        both = {True: 0, False: 0}
        for givens, gaps, wishes in drawn_tasks(212, 3):
            doing = meant_to_do(givens, gaps, wishes)
            plains = [[drawn_form(draws, givens, 8) for gap in gaps] for turn in range(4)]
            if [] not in doing:
                plains += [drawn_filling(draws, givens, gaps, doing) for turn in range(4)]
            both[self.looked_at(givens, gaps, wishes, plains)] += 1
        self.assertGreater(min(both.values()), 50)

    def test_tasks_over_all_six_letters(self):
        draws = chance(213)
        filled = 0
        for turn in range(60):
            wishes = [drawn_wish(draws, "abcxyz", 20) for wish in range(draws.choice((1, 1, 2)))]
            doing = meant_to_do("abc", "xyz", wishes)
            plains = [[drawn_form(draws, "abc", 8) for gap in "xyz"] for other in range(3)]
            if [] not in doing:
                plains += [drawn_filling(draws, "abc", "xyz", doing) for other in range(3)]
            if self.looked_at("abc", "xyz", wishes, plains):
                filled += 1
        self.assertGreater(filled, 15)

    def test_there_is_none_where_one_given_row_alone_has_nothing_that_does(self):
        for givens, gaps in itertools.product(("a", "bc", "abc"), ("", "x", "yz", "xyz")):
            for row in range(2 ** len(givens)):
                sides = "".join("1" if truth else "0" for truth in all_rows(givens)[row].values())
                text = "1"
                for letter, sign in zip(givens, sides):
                    text = "(" + text + "&" + (letter if sign == "1" else "~" + letter) + ")"
                task = Task(givens, gaps, [text + " = 0"])
                self.assertEqual([there == [] for there in task.doing()], [k == row for k in range(2 ** len(givens))])
                self.assertIsNone(widest_filling(task))

    def test_there_is_one_just_where_the_rest_of_the_fault_is_never(self):
        for givens, gaps, wishes in drawn_tasks(214, 1):
            task = Task(givens, gaps, wishes)
            self.assertEqual(widest_filling(task) is None, every_of(task.fault(), gaps) != ())
            if len(gaps) == 1:
                self.assertEqual(widest_filling(task) is None, rest_of(task.fault(), gaps) != ())

    def test_the_list_told_is_the_askers_own(self):
        task = Task("a", "xy", ["(x|y) = a"])
        told = widest_filling(task)
        kept = list(told)
        self.assertIsNot(widest_filling(task), told)
        told[0] = ("",)
        told.append(())
        self.assertEqual(widest_filling(task), kept)
        told.clear()
        self.assertEqual(widest_filling(task), kept)
        empty = Task("a", "", [])
        widest_filling(empty).append(())
        self.assertEqual(widest_filling(empty), [])

    def test_the_task_stays(self):
        task = Task("a", "xy", ["(x|y) = a"])
        told = (task.givens(), task.gaps(), task.wishes(), task.sides(), task.fault(), task.doing())
        widest_filling(task)
        self.assertEqual((task.givens(), task.gaps(), task.wishes(), task.sides(), task.fault(), task.doing()), told)

    def test_asked_again_it_answers_the_same(self):
        for givens, gaps, wishes in drawn_tasks(215, 1):
            one = Task(givens, gaps, wishes)
            again = widest_filling(one)
            self.assertEqual(widest_filling(one), again)
            self.assertEqual(widest_filling(Task(givens, gaps, list(wishes))), again)


class Filler(unittest.TestCase):

    def test_by_hand(self):
        self.assertEqual(filler("x", [("p",)])([("a",)]), [("a",)])
        self.assertEqual(filler("x", [("ab", "ap", "p")])([("a",)]), [("ab",)])
        self.assertEqual(filler("x", [("ab", "ap", "p")])([()]), [("ab",)])
        self.assertEqual(filler("x", [("ab", "ap", "p")])([("",)]), [("", "a", "ab")])
        self.assertEqual(filler("x", [("a",)])([("b",)]), [("a",)])
        self.assertEqual(filler("xy", [("p", "pq"), ("", "p", "pq")])([("a",), ("b",)]), [("a", "ab"), ("", "a", "ab")])
        self.assertEqual(filler("yz", [("r",), ("q",)])([("a",), ("b",)]), [("b",), ("a",)])
        self.assertEqual(filler("xz", [("pr",), ("p", "r")])([("a",), ("ab",)]), [("ab",), ("a", "ab")])

    def test_no_gaps(self):
        told = filler("", [])
        self.assertEqual(told([]), [])
        told([]).append(())
        self.assertEqual(told([]), [])

    def test_all_at_once(self):
        self.assertEqual(filler("xy", [("p",), ("q",)])([("q",), ("p",)]), [("q",), ("p",)])
        self.assertEqual(filler("xy", [("p", "q"), ("pq",)])([("q",), ("p",)]), [("p", "q"), ("pq",)])
        self.assertEqual(filler("xy", [("p", "pq"), ("q",)])([("q",), ("p",)]), [("pq", "q"), ("p",)])
        self.assertEqual(filler("xy", [("ap",), ("bq",)])([("aq",), ("bp",)]), [("aq",), ("bp",)])
        self.assertEqual(filler("xyz", [("p",), ("q",), ("r",)])([("q",), ("r",), ("p",)]), [("q",), ("r",), ("p",)])
        self.assertEqual(filler("xyz", [("pq",), ("qr",), ("pr",)])([("q",), ("r",), ("p",)]),
                         [("qr",), ("pr",), ("pq",)])

    def test_free_letters_of_other_gaps_stay(self):
        self.assertEqual(filler("x", [("pq",)])([("a",)]), [("aq",)])
        self.assertEqual(filler("y", [("pq",)])([("a",)]), [("ap",)])

    def test_gaps_stay_and_may_be_put(self):
        self.assertEqual(filler("xy", [("p",), ("pq",)])([("x",), ("y",)]), [("x",), ("xy",)])

    def test_against_the_truths_by_all_rows(self):
        draws = chance(22)
        for gaps in GAP_ROWS:
            free = "".join(FREE[gap] for gap in gaps)
            for turn in range(4):
                filling = [drawn_form(draws, "abc" + free, 64) for gap in gaps]
                for letters in ("", "abc", "ab" + free, "abcpqr"):
                    forms = [drawn_form(draws, letters, 64) for gap in gaps]
                    told = filler(gaps, filling)(forms)
                    rows = all_rows("".join(sorted(set("abc" + letters))))
                    self.assertEqual(len(told), len(gaps))
                    for form, comes in zip(filling, told):
                        self.assertTrue(is_form(comes))
                        self.assertEqual(truths_of(comes, rows), [
                            true_by(form, {**row, **{letter: true_by(put, row) for letter, put in zip(free, forms)}})
                            for row in rows])

    def test_great_forms(self):
        full = full_form(LETTERS)
        self.assertEqual(filler("xyz", [("p",), ("q",), ("r",)])([full, full, ()]), [full, full, ()])
        told = filler("xyz", [("p", "q"), ("pq",), ("", "r")])([full, full, full])
        self.assertEqual(told[:2], [(), full])
        self.assertEqual(filler("xyz", [("p",), ("pqr",), ("p", "q", "r")])(told)[0], ())

    def test_the_filling_handed_in_may_be_changed_after(self):
        filling = [("p",), ("", "p")]
        told = filler("xy", filling)
        filling[0] = ()
        self.assertEqual(told([("a",), ("b",)]), [("a",), ("", "a")])
        filling.append(("q",))
        self.assertEqual(told([("a",), ("b",)]), [("a",), ("", "a")])
        filling.clear()
        self.assertEqual(told([("a",), ("b",)]), [("a",), ("", "a")])

    def test_what_is_handed_in_stays(self):
        filling = [("p",), ("", "p")]
        forms = [("a",), ("b",)]
        filler("xy", filling)(forms)
        self.assertEqual((filling, forms), ([("p",), ("", "p")], [("a",), ("b",)]))

    def test_each_list_told_is_a_new_one(self):
        filling = [("a",), ("p",)]
        forms = [("b",), ("a",)]
        told = filler("xy", filling)
        one = told(forms)
        self.assertIsNot(told(forms), one)
        self.assertIsNot(one, forms)
        self.assertIsNot(one, filling)
        one[0] = ()
        one.append(())
        self.assertEqual(told(forms), [("a",), ("b",)])
        one.clear()
        self.assertEqual(told(forms), [("a",), ("b",)])
        self.assertEqual((filling, forms), ([("a",), ("p",)], [("b",), ("a",)]))

    def test_the_list_put_may_be_changed_after(self):
        told = filler("x", [("p",)])
        forms = [("a",)]
        one = told(forms)
        forms[0] = ("b",)
        self.assertEqual(one, [("a",)])
        self.assertEqual(told(forms), [("b",)])
        self.assertEqual(told([("a",)]), [("a",)])

    def test_two_fillers_do_not_touch_one_another(self):
        one = filler("x", [("p",)])
        other = filler("yz", [("", "q"), ("r",)])
        self.assertEqual(one([("a",)]), [("a",)])
        self.assertEqual(other([("a",), ("b",)]), [("", "a"), ("b",)])
        self.assertEqual(one([("c",)]), [("c",)])

    def test_fillings_come_of_a_widest_one(self):
        draws = chance(221)
        filled = 0
        for givens, gaps, wishes in drawn_tasks(222, 2):
            task = Task(givens, gaps, wishes)
            widest = widest_filling(task)
            if widest is None:
                continue
            told = filler(gaps, widest)
            for plain in [drawn_filling(draws, givens, gaps, task.doing()) for turn in range(2)]:
                self.assertEqual(told(plain), plain)
            for plain in [[drawn_form(draws, givens, 8) for gap in gaps] for turn in range(2)]:
                self.assertIs(task.fills(told(plain)), True)
                self.assertEqual(told(told(plain)), told(plain))
            free = [drawn_form(draws, givens + free_of(gaps), 64) for gap in gaps]
            self.assertIs(task.fills(told(free)), True)
            filled += 1
        self.assertGreater(filled, 40)


if __name__ == "__main__":
    unittest.main()
