import unittest

from fillsay import errors

BARE = ("NoForm", "NoLetters", "NoWish", "TooMany", "NoFilling", "NoNumber", "NoLine", "NothingDone")
ALL = BARE + ("NoSaying", "Strange")


def made():
    refusals = {name: getattr(errors, name)() for name in BARE}
    refusals["NoSaying"] = errors.NoSaying(3)
    refusals["Strange"] = errors.Strange("b")
    return refusals


class Refusals(unittest.TestCase):

    def test_fill_error_is_a_value_error(self):
        self.assertEqual(errors.FillError.__bases__, (ValueError,))

    def test_there_are_ten_straight_under_it(self):
        self.assertEqual(len(ALL), 10)
        for name in ALL:
            with self.subTest(name):
                self.assertEqual(getattr(errors, name).__bases__, (errors.FillError,))

    def test_each_is_of_its_own_class_and_of_none_of_the_others(self):
        for name, refusal in made().items():
            self.assertIsInstance(refusal, errors.FillError)
            self.assertIsInstance(refusal, ValueError)
            for other in ALL:
                with self.subTest(name, other=other):
                    self.assertEqual(isinstance(refusal, getattr(errors, other)), name == other)

    def test_each_is_raised_and_taken_by_its_name(self):
        for name, refusal in made().items():
            for kind in (getattr(errors, name), errors.FillError, ValueError):
                with self.subTest(name, kind=kind), self.assertRaises(kind) as taken:
                    raise refusal
                self.assertIs(taken.exception, refusal)

    def test_no_saying_has_its_place(self):
        for place in (0, 1, 7, 200):
            self.assertEqual(errors.NoSaying(place).place, place)
            self.assertIs(type(errors.NoSaying(place).place), int)

    def test_strange_has_its_letter(self):
        for letter in ("", "a", "q", "z", "some word", " "):
            self.assertEqual(errors.Strange(letter).letter, letter)

    def test_each_object_has_its_own_field(self):
        first = errors.NoSaying(1)
        errors.NoSaying(2)
        self.assertEqual(first.place, 1)
        one = errors.Strange("x")
        errors.Strange("y")
        self.assertEqual(one.letter, "x")

    def test_the_bare_ones_are_made_of_nothing(self):
        for name in BARE:
            with self.subTest(name):
                self.assertIsInstance(getattr(errors, name)(), getattr(errors, name))


if __name__ == "__main__":
    unittest.main()
