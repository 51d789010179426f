"""Where a stand's words are, and the stand at the begin."""

import unittest

from stepcourt.layout import begin, depth_of, room_at, waits_at
from stepcourt.reader import read


def program_of(cells, lengths=()):
    """A program with so many cells, beginning with 11, 12 .., and rows of these lengths."""
    rows = ["cell " + "abcdefghijklmnopqrstuvwxyz"[k] + " " + str(11 + k) for k in range(cells)]
    rows += ["row " + "rstuvwxyz"[k] + " " + str(length) for k, length in enumerate(lengths)]
    return read("\n".join(rows + ["main", "end"]))


class Places(unittest.TestCase):
    def placed(self, program, room, waits, depth):
        self.assertEqual((room_at(program), waits_at(program), depth_of(program)), (room, waits, depth))
        self.assertEqual(len(begin(program, ())), 2 ** depth)

    def test_one_cell_no_rows(self):
        self.placed(program_of(1), 7, 15, 5)

    def test_cells_and_rows(self):
        self.placed(program_of(2, (3,)), 11, 19, 5)
        self.placed(program_of(1, (1, 1, 1)), 10, 18, 5)
        self.placed(program_of(6), 12, 20, 5)
        self.placed(program_of(6, (8, 8, 8)), 36, 44, 6)

    def test_just_a_power_of_two(self):
        self.placed(program_of(4, (8,)), 18, 26, 5)
        self.placed(program_of(1, (8, 3)), 18, 26, 5)

    def test_one_word_more_and_one_less(self):
        self.placed(program_of(5, (8,)), 19, 27, 6)
        self.placed(program_of(3, (8,)), 17, 25, 5)

    def test_somewhat_beyond_the_bounds(self):
        self.placed(program_of(4, (8, 8, 8, 8, 8)), 50, 58, 6)
        self.placed(program_of(5, (8, 8, 8, 8, 8)), 51, 59, 7)

    def test_defs_and_statements_take_no_words(self):
        text = "cell a 0\nrow r 2\ndef f\nset a 1\nend\nmain\ncall f\nput r 0 a\nend"
        self.placed(read(text), 9, 17, 5)


class Begin(unittest.TestCase):
    def test_all_is_nought_but_the_boxes(self):
        self.assertEqual(begin(program_of(1), ()), (0,) * 6 + (11,) + (0,) * 25)
        self.assertEqual(begin(program_of(3, (2,)), ()), (0,) * 6 + (11, 12, 13) + (0,) * 23)
        self.assertEqual(begin(program_of(6, (8, 8, 8)), ()), (0,) * 6 + (11, 12, 13, 14, 15, 16) + (0,) * 52)

    def test_numbers_for_none_to_all_of_the_cells(self):
        program = program_of(3)
        for many in range(4):
            numbers = (4294967295, 0, 7)[:many]
            cells = numbers + (11, 12, 13)[many:]
            self.assertEqual(begin(program, numbers), (0,) * 6 + cells + (0,) * 23)

    def test_rows_begin_with_nought_whatever_the_numbers(self):
        self.assertEqual(begin(program_of(1, (3,)), (5,)), (0,) * 6 + (5,) + (0,) * 25)

    def test_just_a_power_of_two(self):
        self.assertEqual(begin(program_of(4, (8,)), (1, 2, 3, 4)), (0,) * 6 + (1, 2, 3, 4) + (0,) * 22)
        self.assertEqual(begin(program_of(5, (8,)), (1, 2, 3, 4)), (0,) * 6 + (1, 2, 3, 4, 15) + (0,) * 53)

    def test_kinds_and_names(self):
        program = program_of(2, (2,))
        told = begin(program=program, numbers=(9,))
        self.assertIs(type(told), tuple)
        self.assertEqual({type(word) for word in told}, {int})
        self.assertEqual(told, begin(program, (9,)))
        self.assertEqual(program, program_of(2, (2,)))
        self.assertEqual((room_at(program=program), waits_at(program=program), depth_of(program=program)), (10, 18, 5))


if __name__ == "__main__":
    unittest.main()
