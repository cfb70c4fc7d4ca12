"""What is promised over the whole program: points 2 and 3, and the interface."""

import copy
import importlib
import inspect
import itertools
import unittest

from fillsay.alikes import gap_told
from fillsay.between import between
from fillsay.counting import filling_at, how_many, number_of
from fillsay.desk import Desk
from fillsay.errors import FillError, NoFilling, NoNumber
from fillsay.forms import added, form_of, joined, leads, letters_of, multiplied, opposite, row_of, table_of, worth
from fillsay.onegap import greatest_of, least_of, rest_of, widest_of
from fillsay.papers import paper_of, stands
from fillsay.putting import every_of, fixed_at, put_in, some_of
from fillsay.several import filler, free_of, widest_filling
from fillsay.texts import form_read, form_text, read
from fillsay.wishes import Task
from tests.helper import LETTERS, all_forms, all_rows, chance, drawn_form, drawn_saying, drawn_tasks, full_form, meant
from tests.helper import meant_to_do, plain_fillings, small_tasks, true_by, wish_with_fault

FUNCTIONS = {
    "texts": {"read": "text", "form_text": "form", "form_read": "text"},
    "forms": {"added": "one other", "multiplied": "one other", "joined": "one other", "opposite": "form",
              "leads": "one other", "letters_of": "form", "worth": "form row", "row_of": "letters number",
              "table_of": "form letters", "form_of": "letters table"},
    "putting": {"put_in": "form forms", "fixed_at": "form letter truth", "some_of": "form letters",
                "every_of": "form letters"},
    "onegap": {"rest_of": "form gap", "least_of": "form gap", "greatest_of": "form gap", "widest_of": "form gap free"},
    "several": {"free_of": "gaps", "widest_filling": "task", "filler": "gaps filling"},
    "papers": {"paper_of": "task", "stands": "task paper"},
    "counting": {"how_many": "task", "filling_at": "task number", "number_of": "task filling"},
    "alikes": {"gap_told": "task gap"},
    "between": {"between": "one other"},
}
SAYING = {"text": "", "size": "", "letters": "", "truth": "row", "form": ""}
CLASSES = {
    "errors": {"NoSaying": ("place", {}), "Strange": ("letter", {}), "NoForm": ("", {}), "NoLetters": ("", {}),
               "NoWish": ("", {}), "TooMany": ("", {}), "NoFilling": ("", {}), "NoNumber": ("", {}),
               "NoLine": ("", {}), "NothingDone": ("", {})},
    "sayings": {"Always": ("", SAYING), "Never": ("", SAYING), "Letter": ("letter", SAYING), "Not": ("one", SAYING),
                "And": ("one other", SAYING), "Or": ("one other", SAYING), "Either": ("one other", SAYING)},
    "wishes": {"Task": ("givens gaps wishes", {"givens": "", "gaps": "", "wishes": "", "sides": "", "fault": "",
                                               "does": "given_row gap_row", "doing": "", "fills": "filling"})},
    "desk": {"Desk": ("", {"told": "line"})},
}


def arguments(function):
    return " ".join(name for name in inspect.signature(function).parameters if name != "self")


class Interface(unittest.TestCase):

    def test_functions(self):
        for name, functions in FUNCTIONS.items():
            module = importlib.import_module("fillsay." + name)
            for function, given in functions.items():
                self.assertEqual(arguments(getattr(module, function)), given, function)

    def test_classes(self):
        for name, classes in CLASSES.items():
            module = importlib.import_module("fillsay." + name)
            for called, (given, methods) in classes.items():
                kind = getattr(module, called)
                self.assertTrue(inspect.isclass(kind), called)
                made_of_nothing = kind.__init__ in (object.__init__, ValueError.__init__)
                self.assertEqual("" if made_of_nothing else arguments(kind.__init__), given, called)
                for method, wanted in methods.items():
                    self.assertEqual(arguments(getattr(kind, method)), wanted, method)


class Promise(unittest.TestCase):
    """Point 3, sentence by sentence, by what the program's parts tell of one another."""

    def test_sayings_are_alike_just_where_their_forms_are_equal(self):
        draws = chance(301)
        both = {True: 0, False: 0}
        for turn in range(400):
            letters = draws.choice(("", "a", "ax", "abp"))
            one = drawn_saying(draws, letters, draws.randint(1, 9))
            other = drawn_saying(draws, letters, draws.randint(1, 9))
            alike = all(meant(one.text(), row) == meant(other.text(), row) for row in all_rows(letters))
            self.assertEqual(one.form() == other.form(), alike)
            self.assertEqual(read(one.text()).form() == form_read(form_text(other.form())), alike)
            # Alike are those of which each leads to the other.
            kinds = (between(one.form(), other.form())[0], between(other.form(), one.form())[0])
            self.assertEqual(kinds == ("between", "between"), alike)
            both[alike] += 1
        self.assertGreater(min(both.values()), 50)

    def test_just_one_of_the_two_papers(self):
        for givens, gaps, wishes in small_tasks() + drawn_tasks(302, 3):
            task = Task(givens, gaps, wishes)
            paper = paper_of(task)
            self.assertTrue(stands(task, paper))
            filled = paper[0] == "filled"
            self.assertEqual(how_many(task) > 0, filled)
            self.assertEqual(widest_filling(task) is not None, filled)
            rows = [row for row, there in enumerate(task.doing()) if there == []]
            self.assertEqual(rows == [], filled)
            if filled:
                self.assertFalse(stands(task, ("nothing", [], (), [])))
            else:
                self.assertEqual(paper[1], rows)
                self.assertFalse(stands(task, ("filled", [(letter,) for letter in free_of(gaps)])))

    def test_whatever_is_put_for_the_free_letters_and_each_filling_of_itself(self):
        draws = chance(303)
        for givens, gaps, wishes in drawn_tasks(304, 2):
            task = Task(givens, gaps, wishes)
            paper = paper_of(task)
            if paper[0] == "nothing":
                continue
            fill = filler(gaps, paper[1])
            for turn in range(4):
                filling = fill([drawn_form(draws, givens, 8) for gap in gaps])
                self.assertTrue(task.fills(filling))
                self.assertEqual(filling_at(task, number_of(task, filling)), filling)
                self.assertEqual(fill(filling), filling)
                chosen = filling_at(task, draws.randrange(how_many(task)))
                self.assertEqual(fill(chosen), chosen)

    def test_fillings_and_numbers(self):
        for givens, gaps, wishes in small_tasks():
            task = Task(givens, gaps, wishes)
            fillings = [filling_at(task, number) for number in range(how_many(task))]
            filled = [plain for plain in plain_fillings(givens, gaps) if task.fills(plain)]
            self.assertEqual(sorted(fillings), sorted(filled))
            self.assertEqual([number_of(task, filling) for filling in fillings], list(range(len(filled))))
            with self.assertRaises(NoNumber):
                filling_at(task, len(filled))

    def test_gaps_filled_alike(self):
        kinds = {"same": 0, "apart": 0, "none": 0}
        for givens, gaps, wishes in small_tasks():
            task = Task(givens, gaps, wishes)
            fillings = [filling_at(task, number) for number in range(how_many(task))]
            for place, gap in enumerate(gaps):
                if not fillings:
                    with self.assertRaises(NoFilling):
                        gap_told(task, gap)
                    kinds["none"] += 1
                    continue
                told = gap_told(task, gap)
                forms = {filling[place] for filling in fillings}
                self.assertEqual(told[0] == "same", len(forms) == 1)
                kinds[told[0]] += 1
                # A widest filling fills whatever the free letters are, so none of them stands in such a gap's form.
                if told[0] == "same":
                    self.assertEqual(widest_filling(task)[place], told[1])
                else:
                    self.assertIn(told[1], fillings)
                    self.assertIn(told[2], fillings)
                    truths = [worth(filling[place], row_of(givens, told[3])) for filling in told[1:3]]
                    self.assertNotEqual(truths[0], truths[1])
        self.assertGreater(min(kinds.values()), 100)

    def test_one_gap_and_what_lies_between(self):
        for form in all_forms("abx"):
            task = Task("ab", "x", [wish_with_fault(form)])
            least, greatest = least_of(form, "x"), greatest_of(form, "x")
            told = between(least, greatest)
            filled = rest_of(form, "x") == ()
            self.assertEqual(told[0] == "between", filled)
            self.assertEqual(how_many(task) > 0, filled)
            if filled:
                lying = [plain for plain in all_forms("ab") if leads(least, plain) and leads(plain, greatest)]
                self.assertEqual(len(lying), how_many(task))
                self.assertTrue(all(task.fills([plain]) for plain in lying))
                self.assertTrue(stands(task, ("filled", [widest_of(form, "x", "p")])))
                self.assertEqual(gap_told(task, "x")[0] == "same", least == greatest)
            else:
                # The row at which nothing can do: the least is true there, and the greatest is not.
                row = {"a": False, "b": False, **told[1]}
                self.assertTrue(true_by(paper_of(task)[2], row))

    def test_the_desk_tells_what_the_parts_tell(self):
        for givens, gaps, wishes in drawn_tasks(305, 1):
            task = Task(givens, gaps, wishes)
            desk = Desk()
            desk.told("letters " + (givens or "-") + " " + (gaps or "-"))
            for wish in wishes:
                desk.told("wish " + wish)
            self.assertEqual(desk.told("wishes"), task.wishes())
            self.assertEqual(desk.told("fault"), [form_text(task.fault())])
            self.assertEqual(desk.told("count"), [str(how_many(task))])
            paper = paper_of(task)
            if paper[0] == "nothing":
                self.assertEqual(desk.told("widest"), ["none " + form_text(paper[2])])
                continue
            told = [form_read(text.partition(" = ")[2]) for text in desk.told("widest")]
            self.assertTrue(stands(task, ("filled", told)))
            last = [gap + " = " + form_text(form) for gap, form in zip(gaps, filling_at(task, how_many(task) - 1))]
            self.assertEqual(desk.told("filling " + str(how_many(task) - 1)), last)
            for gap in gaps:
                self.assertEqual(desk.told("gap " + gap)[0].split(" ")[0], gap_told(task, gap)[0])


class HandedIn(unittest.TestCase):
    """Point 2: whatever is handed in stays, and asked again with equal things the program tells equal things."""

    def asked_twice(self, function, *things):
        kept = copy.deepcopy(things)
        told = self.answer(function, things)
        as_told = copy.deepcopy(told)
        self.assertEqual(things, kept)
        spoil(told)
        self.assertEqual(things, kept)
        self.assertEqual(self.answer(function, things), as_told)
        self.assertEqual(self.answer(function, kept), as_told)

    def answer(self, function, things):
        try:
            return function(*things)
        except FillError as error:
            return (type(error).__name__, sorted(vars(error).items()))

    def test_forms(self):
        draws = chance(306)
        great = full_form(LETTERS)
        for turn in range(40):
            one = drawn_form(draws, draws.choice(("ab", "abx", "apx")), 8) if turn else great
            other = drawn_form(draws, draws.choice(("ab", "bcx", LETTERS)), 20) if turn else opposite(great)
            for function in (added, multiplied, joined, leads, between):
                self.asked_twice(function, one, other)
            for function in (opposite, letters_of, form_text):
                self.asked_twice(function, one)
            self.asked_twice(form_read, form_text(one))
            self.asked_twice(put_in, one, {"a": other, "x": ("b",), "z": ()})
            self.asked_twice(fixed_at, one, "a", True)
            for function in (some_of, every_of):
                self.asked_twice(function, one, "abx")
            for function in (rest_of, least_of, greatest_of):
                self.asked_twice(function, one, "x")
            self.asked_twice(widest_of, one, "x", "r")
            self.asked_twice(worth, one, {letter: True for letter in LETTERS})
            self.asked_twice(table_of, drawn_form(draws, "abx", 8), "abx")
            self.asked_twice(form_of, "abx", [draws.choice((True, False)) for row in range(8)])
        self.asked_twice(row_of, "abc", 5)

    def test_tasks(self):
        for givens, gaps, wishes in drawn_tasks(307, 1):
            wished = list(wishes)
            task = Task(givens, gaps, wished)
            doing = meant_to_do(givens, gaps, wishes)
            wished.append("no wish")
            wished[0] = "spoilt"
            written = task.wishes()
            for ask in (task.wishes, task.sides, task.doing, task.fault):
                self.asked_twice(ask)
            for function in (how_many, widest_filling, paper_of):
                self.asked_twice(lambda: function(task))
            for number in (0, how_many(task) - 1, how_many(task)):
                self.asked_twice(lambda number: filling_at(task, number), number)
            for gap in gaps + "ap":
                self.asked_twice(lambda gap: gap_told(task, gap), gap)
            for filling in ([() for gap in gaps], [(givens[:1],) for gap in gaps]):
                self.asked_twice(lambda filling: number_of(task, filling), filling)
                self.asked_twice(task.fills, filling)
                self.asked_twice(lambda filling: stands(task, ("filled", filling)), filling)
                self.asked_twice(lambda filling: filler(gaps, filling)([("a",) for gap in gaps]), filling)
            self.asked_twice(lambda paper: stands(task, paper), paper_of(task))
            self.assertEqual(task.doing(), doing)
            self.assertEqual(task.wishes(), written)

    def test_desks(self):
        lines = ("letters ab xy", "wish (x&y) = a", "wishes", "fault", "count", "widest", "filling 3", "filling 99",
                 "gap x", "gap q", "leads a to (a|b)", "leads b to a", "back", "wishes", "back", "back")
        told = []
        for turn in range(2):
            desk = Desk()
            answers = [self.answer(desk.told, (line,)) for line in lines]
            told.append(copy.deepcopy(answers))
            for answer in answers:
                spoil(answer)
        self.assertEqual(told[0], told[1])

    def test_what_was_told_may_be_handed_in_again(self):
        # Sums and products of the forms of widest fillings, up to 512 products of all nine letters.
        great = multiplied(full_form("abcpqr"), full_form("xyz"))
        self.assertEqual(great, full_form(LETTERS))
        self.assertEqual(opposite(opposite(great)), great)
        self.assertEqual(form_read(form_text(great)), great)
        self.assertEqual(some_of(great, LETTERS), ("",))
        # It is true by the row alone by which no letter is; so put for a, b and c it is false by all other rows.
        self.assertEqual(put_in(great, {letter: great for letter in "abc"}),
                         multiplied(opposite(great), full_form("pqrxyz")))
        self.assertEqual(widest_of(great, "x", "p"), joined(full_form("abcpqryz"), ("p",)))
        self.assertEqual(between(great, joined(great, ("a",)))[0], "between")
        task = Task("abc", "xyz", ["(x&(y|a)) = (z&b)", "(x|y) = (z|(c&x))"])
        filling = widest_filling(task)
        fill = filler("xyz", filling)
        self.assertEqual(fill(fill([(letter,) for letter in "pqr"])), filling)
        for one, other in itertools.product(filling, repeat=2):
            self.assertEqual(leads(one, other), between(one, other)[0] == "between")


def spoil(told):
    """Changes each list and dict that can be reached."""
    if isinstance(told, dict):
        told.clear()
        told["spoilt"] = True
    if isinstance(told, (list, tuple)):
        for thing in told:
            spoil(thing)
    if isinstance(told, list):
        told.clear()
        told.append("spoilt")


if __name__ == "__main__":
    unittest.main()
