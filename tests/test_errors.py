"""The errors: their fields, and what they stand under."""

import unittest

from linearmix import errors

PLAIN = ("BadForm", "NoName", "BadName", "Clash", "BadOrder", "BadClass", "BadParts",
         "NoMember", "NotAbove", "BadKind", "BadPlace", "BadPath", "NoParameter",
         "BadPatterns", "BadCount", "BadCore", "TooMany", "NothingToUndo", "Full",
         "BadNumber", "BadCommand")
WITH_FIELD = {"BadText": "place", "NotLetBy": "what", "BadProgram": "where"}
WORTHS = (7, -1, None, ("kind", (1, 1)), ("Cod",), "text", ["a", ("b",)], True)


def all_errors():
    return [getattr(errors, name) for name in PLAIN + tuple(WITH_FIELD)]


class ErrorsTest(unittest.TestCase):
    def test_each_is_defined_in_the_file(self):
        for error in all_errors() + [errors.MixError]:
            self.assertEqual(error.__module__, "linearmix.errors")

    def test_each_stands_directly_under_mix_error(self):
        self.assertEqual(errors.MixError.__bases__, (ValueError,))
        for error in all_errors():
            self.assertEqual(error.__bases__, (errors.MixError,))

    def test_none_stands_under_another_one(self):
        for error in all_errors():
            for other in all_errors():
                self.assertEqual(issubclass(error, other), error is other)

    def test_plain_ones_are_made_with_a_text(self):
        for name in PLAIN + ("MixError",):
            error = getattr(errors, name)("a text")
            self.assertIsInstance(error, errors.MixError)
            self.assertIsInstance(error, ValueError)
            self.assertEqual(str(error), "a text")

    def test_fields_are_kept_by_position(self):
        for name, field in WITH_FIELD.items():
            for worth in WORTHS:
                error = getattr(errors, name)(worth)
                self.assertIs(getattr(error, field), worth)
                self.assertIsInstance(error, errors.MixError)
                self.assertIsInstance(error, ValueError)

    def test_fields_are_kept_by_name(self):
        for name, field in WITH_FIELD.items():
            for worth in WORTHS:
                error = getattr(errors, name)(**{field: worth})
                self.assertIs(getattr(error, field), worth)

    def test_fields_are_wanted_and_alone(self):
        for name in WITH_FIELD:
            with self.assertRaises(TypeError):
                getattr(errors, name)()
            with self.assertRaises(TypeError):
                getattr(errors, name)(1, 2)

    def test_each_is_caught_as_the_others_are_not(self):
        for error in all_errors():
            try:
                raise error("x")
            except errors.MixError as caught:
                self.assertIs(type(caught), error)


if __name__ == "__main__":
    unittest.main()
