import unittest

from furlough import errors
from furlough.errors import LeaveError

NAMES = ["NoHouse", "Short", "NoAsk", "NoHand", "NoDay", "Twice", "Away", "NoPost", "Full", "NoRow"]
REFUSALS = [getattr(errors, name) for name in NAMES]


class ErrorsTest(unittest.TestCase):
    def test_leave_error_stands_under_value_error(self):
        self.assertEqual(LeaveError.__bases__, (ValueError,))

    def test_each_stands_under_leave_error_alone(self):
        for refusal in REFUSALS:
            with self.subTest(refusal=refusal):
                self.assertEqual(refusal.__bases__, (LeaveError,))

    def test_none_of_the_ten_stands_under_another(self):
        self.assertEqual(len(set(REFUSALS)), 10)
        for one in REFUSALS:
            for other in REFUSALS:
                if one is not other:
                    with self.subTest(one=one, other=other):
                        self.assertFalse(issubclass(one, other))

    def test_each_is_raised_and_taken_with_free_words(self):
        for refusal in REFUSALS:
            for taken in (refusal, LeaveError, ValueError):
                with self.subTest(refusal=refusal, taken=taken):
                    with self.assertRaises(taken) as caught:
                        raise refusal("some words")
                    self.assertEqual(str(caught.exception), "some words")

    def test_each_has_its_own_name(self):
        self.assertEqual([refusal.__name__ for refusal in REFUSALS], NAMES)


if __name__ == "__main__":
    unittest.main()
