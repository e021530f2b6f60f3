import unittest

from holekinds import errors
from tests.samples import Odd, odd_things

BY_GIVEN = [
    "InvalidKind", "InvalidName", "InvalidHole", "InvalidValue", "InvalidNumber", "NoSpot",
    "NoShape", "TooMany", "InvalidLine", "InvalidRule", "NotApart"]
BY_INDEX = ["InvalidBook", "InvalidDeeds", "InvalidAlgebra"]
ATTRIBUTES = {
    **{word: ("given",) for word in BY_GIVEN},
    **{word: ("index",) for word in BY_INDEX},
    "InvalidText": ("line", "column")}


class TestErrors(unittest.TestCase):
    def test_hole_error_stands_under_value_error(self):
        self.assertEqual(errors.HoleError.__bases__, (ValueError,))
        self.assertEqual(vars(errors.HoleError()), {})

    def test_each_error_stands_under_hole_error_alone(self):
        for word in ATTRIBUTES:
            self.assertEqual(getattr(errors, word).__bases__, (errors.HoleError,), word)

    def test_no_other_error_is_there(self):
        there = {word for word, one in vars(errors).items() if isinstance(one, type)}
        self.assertEqual(there, {"HoleError", *ATTRIBUTES})

    def test_each_error_is_defined_in_its_file(self):
        for word in ["HoleError", *ATTRIBUTES]:
            self.assertEqual(getattr(errors, word).__module__, "holekinds.errors")

    def test_each_error_has_just_its_attributes(self):
        for word, attributes in ATTRIBUTES.items():
            made = getattr(errors, word)(*attributes)
            self.assertEqual(vars(made), {one: one for one in attributes}, word)

    def test_each_error_keeps_whatever_it_is_made_with(self):
        for word, attributes in ATTRIBUTES.items():
            for thing in odd_things():
                by_position = getattr(errors, word)(*[thing for one in attributes])
                by_name = getattr(errors, word)(**{one: thing for one in attributes})
                for one in attributes:
                    self.assertIs(getattr(by_position, one), thing)
                    self.assertIs(getattr(by_name, one), thing)

    def test_line_and_column_are_told_in_this_order(self):
        for made in [
                errors.InvalidText(3, 7), errors.InvalidText(3, column=7),
                errors.InvalidText(column=7, line=3)]:
            self.assertEqual((made.line, made.column), (3, 7))

    def test_an_error_without_what_it_is_made_with_is_not_made(self):
        for word, attributes in ATTRIBUTES.items():
            with self.assertRaises(TypeError):
                getattr(errors, word)()
            with self.assertRaises(TypeError):
                getattr(errors, word)(*range(len(attributes) + 1))
            with self.assertRaises(TypeError):
                getattr(errors, word)(**{one + "s": 1 for one in attributes})

    def test_each_error_is_caught_as_what_it_stands_under(self):
        for word, attributes in ATTRIBUTES.items():
            own = getattr(errors, word)
            for caught in [own, errors.HoleError, ValueError]:
                with self.assertRaises(caught) as held:
                    raise own(*attributes)
                self.assertIs(type(held.exception), own)

    def test_no_error_is_caught_as_another_one(self):
        for word, attributes in ATTRIBUTES.items():
            for other in ATTRIBUTES:
                if other != word:
                    made = getattr(errors, word)(*attributes)
                    self.assertNotIsInstance(made, getattr(errors, other))

    def test_each_error_can_be_shown_whatever_it_keeps(self):
        for word, attributes in ATTRIBUTES.items():
            self.assertNotEqual(str(getattr(errors, word)(*[Odd() for one in attributes])), "")


if __name__ == "__main__":
    unittest.main()
