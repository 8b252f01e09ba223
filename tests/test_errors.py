import unittest

from errandroom import errors
from errandroom.errors import ErrandError, NoErrand, NoRow, NoText, TooMany

REFUSALS = (NoText, NoErrand, TooMany, NoRow)


class Refusals(unittest.TestCase):
    def test_the_first_is_straight_beneath_value_error(self):
        self.assertEqual(ErrandError.__bases__, (ValueError,))

    def test_each_is_straight_beneath_the_first(self):
        for refusal in REFUSALS:
            self.assertEqual(refusal.__bases__, (ErrandError,), refusal)

    def test_they_are_four_unlike_ones(self):
        self.assertEqual(len(set(REFUSALS)), 4)
        self.assertEqual([refusal.__name__ for refusal in REFUSALS], ["NoText", "NoErrand", "TooMany", "NoRow"])

    def test_none_is_beneath_another(self):
        for one in REFUSALS:
            for other in REFUSALS:
                self.assertEqual(issubclass(one, other), one is other)

    def test_each_is_made_with_a_text_and_taken_by_all_three(self):
        for refusal in REFUSALS + (ErrandError,):
            for taken in (refusal, ErrandError, ValueError):
                with self.assertRaises(taken) as caught:
                    raise refusal("these words")
                self.assertEqual(str(caught.exception), "these words")

    def test_all_lie_in_the_one_file(self):
        for refusal in REFUSALS + (ErrandError,):
            self.assertIs(getattr(errors, refusal.__name__), refusal)
            self.assertEqual(refusal.__module__, "errandroom.errors")


if __name__ == "__main__":
    unittest.main()
