"""The refusals: their classes, how they are made, their fields."""

import unittest

from stepcourt.errors import CourtError, NoProgram, NoRecord, NoText, TooLong


class Errors(unittest.TestCase):
    def test_each_stands_right_under_the_one(self):
        self.assertEqual(CourtError.__bases__, (ValueError,))
        for refusal in (NoText, NoProgram, TooLong, NoRecord):
            self.assertEqual(refusal.__bases__, (CourtError,))

    def test_fields(self):
        self.assertEqual(NoText(3).row, 3)
        self.assertEqual(NoRecord(0).row, 0)
        self.assertEqual(TooLong(5000).most, 5000)
        refusal = NoProgram("twice", "a")
        self.assertEqual((refusal.word, refusal.name), ("twice", "a"))

    def test_made_by_names(self):
        self.assertEqual(NoText(row=2).row, 2)
        self.assertEqual(NoRecord(row=7).row, 7)
        self.assertEqual(TooLong(most=9).most, 9)
        refusal = NoProgram(name="b", word="unknown")
        self.assertEqual((refusal.word, refusal.name), ("unknown", "b"))

    def test_raised_and_taken(self):
        for refusal in (NoText(1), NoProgram("twice", "a"), TooLong(1), NoRecord(1)):
            with self.assertRaises(CourtError):
                raise refusal
            with self.assertRaises(ValueError):
                raise refusal
        with self.assertRaises(CourtError):
            raise CourtError("any")

    def test_fields_belong_to_each(self):
        one = NoText(1)
        NoText(2)
        self.assertEqual(one.row, 1)


if __name__ == "__main__":
    unittest.main()
