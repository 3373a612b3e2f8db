"""The interface of rootalarms/errors.py."""

import unittest

from rootalarms import errors

WITH_MESSAGE = (
    "NetError", "ComponentError", "SetError", "ReportError", "WordError", "NumberError", "TextError", "NothingDone",
)


class ErrorsTest(unittest.TestCase):
    def test_alarm_error_derives_from_value_error(self):
        self.assertEqual(errors.AlarmError.__bases__, (ValueError,))
        self.assertEqual(str(errors.AlarmError("why")), "why")

    def test_errors_with_a_message(self):
        for name in WITH_MESSAGE:
            with self.subTest(name=name):
                kind = getattr(errors, name)
                self.assertEqual(kind.__bases__, (errors.AlarmError,))
                self.assertEqual(str(kind("why")), "why")

    def test_unexplained(self):
        self.assertEqual(errors.Unexplained.__bases__, (errors.AlarmError,))
        for error in (errors.Unexplained(3, (0, 1)), errors.Unexplained(alarm=3, quiets=(0, 1))):
            self.assertEqual((error.alarm, error.quiets), (3, (0, 1)))
            self.assertIsInstance(str(error), str)

    def test_limit_error(self):
        self.assertEqual(errors.LimitError.__bases__, (errors.AlarmError,))
        for error in (errors.LimitError(9, 8), errors.LimitError(amount=9, limit=8)):
            self.assertEqual((error.amount, error.limit), (9, 8))
            self.assertIsInstance(str(error), str)

    def test_fields_belong_to_one_object(self):
        one, other = errors.LimitError(9, 8), errors.LimitError(5, 4)
        self.assertEqual((one.amount, one.limit, other.amount, other.limit), (9, 8, 5, 4))

    def test_all_are_caught_as_alarm_error(self):
        for error in [getattr(errors, name)("why") for name in WITH_MESSAGE] + [
            errors.Unexplained(0, ()), errors.LimitError(1, 0),
        ]:
            with self.assertRaises(errors.AlarmError):
                raise error


if __name__ == "__main__":
    unittest.main()
