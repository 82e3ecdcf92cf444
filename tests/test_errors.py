"""The exceptions: their bases and fields."""

import unittest

from restartable import errors

WITH_MESSAGE = ("ScriptError", "FieldsError", "StepError", "RecordError", "NumberError", "StopsError", "EffectError",
                "MarksError", "MatchError", "PlaceError", "TextError", "Ended", "NothingDone")


class ErrorsTest(unittest.TestCase):
    def test_restart_error_is_a_value_error(self):
        self.assertEqual(errors.RestartError.__bases__, (ValueError,))
        self.assertEqual(str(errors.RestartError("told")), "told")

    def test_each_derives_directly_from_restart_error(self):
        for name in (*WITH_MESSAGE, "NotSafe", "LimitError"):
            with self.subTest(name):
                made = getattr(errors, name)
                self.assertEqual(made.__bases__, (errors.RestartError,))
                self.assertEqual(made.__module__, "restartable.errors")
                self.assertEqual(made.__name__, name)

    def test_each_is_made_with_a_message(self):
        for name in WITH_MESSAGE:
            with self.subTest(name), self.assertRaises(errors.RestartError) as caught:
                raise getattr(errors, name)("told so")
            self.assertEqual(str(caught.exception), "told so")

    def test_not_safe_has_its_field(self):
        for field in (0, 4):
            with self.assertRaises(errors.RestartError) as caught:
                raise errors.NotSafe(field)
            self.assertEqual(caught.exception.field, field)
        self.assertEqual(errors.NotSafe(field=3).field, 3)

    def test_limit_error_has_amount_and_limit(self):
        with self.assertRaises(errors.RestartError) as caught:
            raise errors.LimitError(13, 12)
        self.assertEqual((caught.exception.amount, caught.exception.limit), (13, 12))
        named = errors.LimitError(limit=6, amount=7)
        self.assertEqual((named.amount, named.limit), (7, 6))

    def test_fields_are_those_of_each_object(self):
        one, other = errors.LimitError(13, 12), errors.LimitError(7, 6)
        self.assertEqual((one.amount, one.limit, other.amount, other.limit), (13, 12, 7, 6))


if __name__ == "__main__":
    unittest.main()
