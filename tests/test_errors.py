"""The error classes: which stands under which, and their fields."""

import inspect
import unittest

from borderfloor import errors

OF_A_TEXT = ("NoPiece", "TooMany", "NoDrawing", "Backward", "NoGrid", "NotAsMany", "NoFloor", "NoLine", "Nothing")
OF_A_FIELD = {"Apart": "cell", "Hole": "cell", "NoWord": "place", "Crossed": "place", "Open": "way"}


class ErrorsTest(unittest.TestCase):
    def test_all_classes_are_there_and_no_others(self):
        names = [name for name, value in vars(errors).items() if inspect.isclass(value)]
        self.assertEqual(sorted(names), sorted(["FloorError", *OF_A_TEXT, *OF_A_FIELD]))

    def test_floor_error_stands_under_value_error(self):
        self.assertEqual(errors.FloorError.__bases__, (ValueError,))

    def test_each_stands_under_floor_error_and_under_no_other(self):
        for name in (*OF_A_TEXT, *OF_A_FIELD):
            with self.subTest(name):
                made = getattr(errors, name)
                self.assertTrue(issubclass(made, errors.FloorError))
                for other in (*OF_A_TEXT, *OF_A_FIELD):
                    self.assertEqual(issubclass(made, getattr(errors, other)), name == other)

    def test_made_of_one_text(self):
        for name in ("FloorError", *OF_A_TEXT):
            with self.subTest(name):
                error = getattr(errors, name)("some words")
                self.assertEqual(str(error), "some words")
                self.assertEqual(error.args, ("some words",))

    def test_the_fields(self):
        given = {"cell": (3, -4), "place": 7, "way": (0, -2)}
        for name, field in OF_A_FIELD.items():
            with self.subTest(name):
                made = getattr(errors, name)
                self.assertEqual(vars(made(given[field])), {field: given[field]})
                self.assertEqual(getattr(made(**{field: given[field]}), field), given[field])

    def test_each_object_has_a_field_of_its_own(self):
        one = errors.Apart((1, 2))
        other = errors.Apart((3, 4))
        self.assertEqual(one.cell, (1, 2))
        self.assertEqual(other.cell, (3, 4))

    def test_raised_and_taken_as_any_refusal(self):
        for name, field in OF_A_FIELD.items():
            with self.subTest(name), self.assertRaises(errors.FloorError) as taken:
                raise getattr(errors, name)((5, 6))
            self.assertEqual(getattr(taken.exception, field), (5, 6))

    def test_words_can_be_shown_of_numbers_with_very_many_figures(self):
        far = 10 ** 6000
        for name in OF_A_FIELD:
            with self.subTest(name):
                error = getattr(errors, name)((far, -far))
                self.assertNotEqual(str(error), "")
                self.assertIn(name, repr(error))


if __name__ == "__main__":
    unittest.main()
