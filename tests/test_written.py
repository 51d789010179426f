"""States and ends written down as stands; answers told by seals."""

import pathlib
import sys
import unittest

sys.path.insert(0, str(pathlib.Path(__file__).resolve().parent))

from making import short_runs, stand
from stepcourt.house import House
from stepcourt.layout import begin, depth_of
from stepcourt.machine import row_done
from stepcourt.maker import code_of
from stepcourt.places import Places
from stepcourt.reader import read
from stepcourt.trees import put_in, seal_of
from stepcourt.words import GREAT, WIDE
from stepcourt.written import answer_in, written, written_end

# Calls 0 and 1 in f, 2 in g, 3 and 4 in main.
CALLS = read(
    "cell a 1\ncell b 2\nrow r 2\ndef f\ncall g\ncall f\nend\ndef g\nset a 0\ncall f\nend\nmain\n"
    "set b 5\ncall g\nwhile a\ncall f\nend\nend"
)
CODE = (
    ("num", 5), ("set", 1), ("call", 11), ("get", 0), ("zero", 7), ("call", 8), ("go", 3), ("end",),
    ("call", 11), ("call", 8), ("back",),
    ("num", 0), ("set", 0), ("call", 8), ("back",),
)


class States(unittest.TestCase):
    def written_as(self, waiting, k, row, waits):
        state = ((8, 9), ((6, 7),), waiting)
        due = stand(CALLS, boxes=(8, 9, 6, 7), row=row, calls=k, waits=waits)
        self.assertEqual(written(CALLS, state, k), due)

    def test_the_code(self):
        self.assertEqual(code_of(CALLS), CODE)

    def test_one_waiting_call(self):
        self.written_as((3,), 1, 11, (3,))
        self.written_as((4,), 7, 8, (6,))

    def test_the_last_one_tells_the_row(self):
        self.written_as((3, 2), 2, 8, (3, 14))
        self.written_as((3, 2, 0), 3, 11, (3, 14, 9))
        self.written_as((4, 1), 12, 8, (6, 10))

    def test_six_waiting_calls(self):
        self.written_as((4, 1, 1, 0, 2, 1), 400, 8, (6, 10, 10, 9, 14, 10))

    def test_without_rows(self):
        program = read("cell a 0\ndef f\nend\nmain\ncall f\nend")
        self.assertEqual(written(program, ((WIDE - 1,), (), (0,)), 1), stand(
            program, boxes=(WIDE - 1,), row=2, calls=1, waits=(1,)
        ))

    def test_kinds_and_names(self):
        state = ((8, 9), ((6, 7),), (3,))
        told = written(program=CALLS, state=state, k=1)
        self.assertIs(type(told), tuple)
        self.assertEqual({type(word) for word in told}, {int})
        self.assertEqual(len(told), 2 ** depth_of(CALLS))
        self.assertEqual(written(CALLS, state, 1), told)
        self.assertEqual(state, ((8, 9), ((6, 7),), (3,)))


class Ends(unittest.TestCase):
    def test_an_end(self):
        for k in (0, 1, 20, 400):
            told = written_end(CALLS, ("end", (8, 9), ((6, 7),)), k)
            self.assertEqual(told, stand(CALLS, boxes=(8, 9, 6, 7), row=7, calls=k))

    def test_a_program_of_nothing(self):
        program = read("cell a 5\nmain\nend")
        told = written_end(program=program, end=("end", (5,), ()), k=0)
        self.assertEqual(told, begin(program, ()))
        self.assertIs(type(told), tuple)


class Runs(unittest.TestCase):
    def test_the_machine_stands_so(self):
        counts = {"end": 0, "stuck": 0, "calls": 0, "six": 0}
        for program, numbers, states, end in short_runs(300, 40):
            counts[end[0]] += 1
            now = begin(program, numbers)
            for k, state in enumerate(states, start=1):
                counts["calls"] += 1
                counts["six"] += len(state[2]) == 6
                while now[4] < k:
                    now = row_done(program, now)
                self.assertEqual(now, written(program, state, k))
            if end[0] == "end":
                while code_of(program)[now[0]] != ("end",):
                    now = row_done(program, now)
                self.assertEqual(now, written_end(program, end, len(states)))
        self.assertGreater(min(counts.values()), 3, counts)


class Answers(unittest.TestCase):
    def answer(self, text, numbers, n):
        house = House()
        case = (read(text), numbers, n, 1)
        return answer_in(house, case, Places(house, case).at("rows", n))

    def test_known_answers(self):
        text = "cell x 1\ncell n 5\nmain\nwhile n\nset x (* x n)\nset n (- n 1)\nend\nend"
        self.assertEqual(self.answer(text, (), 400), ("answer", 120))
        self.assertEqual(self.answer(text, (2, 3), 400), ("answer", 12))
        self.assertEqual(self.answer(text, (7, 0), 400), ("answer", 7))
        text = "cell a 0\ncell b 1\ncell n 10\ncell c 0\ndef f\nset c b\nset b (+ a b)\nset a c\nend\n"
        text += "main\nwhile n\ncall f\nset n (- n 1)\nend\nend"
        self.assertEqual(self.answer(text, (), 400), ("answer", 55))

    def test_an_answer_of_nought_and_of_the_last_word(self):
        self.assertEqual(self.answer("cell a 5\nmain\nset a 0\nend", (), 2), ("answer", 0))
        self.assertEqual(self.answer("cell a 5\nmain\nset a (- 0 1)\nend", (), 9), ("answer", WIDE - 1))

    def test_not_yet_at_end(self):
        text = "cell a 5\nmain\nset a 1\nend"
        self.assertEqual([self.answer(text, (), n) for n in (1, 2, 3)], [("open",), ("answer", 1), ("answer", 1)])
        self.assertEqual(self.answer("cell a 1\nmain\nwhile a\nend\nend", (), 400), ("open",))

    def test_a_stuck_run(self):
        self.assertEqual(self.answer("cell a 1\ndef f\ncall f\nend\nmain\ncall f\nend", (), 400), ("open",))

    def test_a_program_of_nothing(self):
        self.assertEqual(self.answer("cell a 5\nmain\nend", (), 1), ("answer", 5))

    def test_the_row_alone_tells(self):
        house = House()
        case = (CALLS, (), 10, 2)
        size = 2 ** depth_of(CALLS)
        for row in range(20):
            words = (row,) + (3,) * 5 + (77,) + (4,) * (size - 7)
            told = ("answer", 77) if row == 7 else ("open",)
            self.assertEqual(answer_in(house, case, seal_of(house, words)), told)
        words = (WIDE - 1,) + (0,) * (size - 1)
        self.assertEqual(answer_in(house, case, seal_of(house, words)), ("open",))

    def test_what_is_not_opened(self):
        house = House()
        case = (CALLS, (), 10, 2)
        depth = depth_of(CALLS)
        for number in (0, -1, GREAT, 10 ** 18 - 1, 1, house.leaf(7), seal_of(house, (7,) * 2)):
            self.assertIsNone(answer_in(house, case, number))
        for size in (depth - 1, depth + 1):
            self.assertIsNone(answer_in(house, case, seal_of(house, (7,) * 2 ** size)))

    def half_closed(self, house, words, closed, height):
        """The seal of a tree of these words where a leaf stands in the place of a pair of a height above one of them."""
        seals = [house.leaf(word) for word in words]
        for level in range(1, depth_of(CALLS) + 1):
            seals = [house.pair(one, other) for one, other in zip(seals[::2], seals[1::2])]
            if level == height:
                seals[closed >> height] = house.leaf(1)
        return seals[0]

    def test_one_of_both_words_is_not_opened(self):
        house = House()
        case = (CALLS, (), 10, 2)
        words = begin(CALLS, ())
        for row in (7, 0):
            words = (row,) + words[1:]
            # Word 0's pair (0, 1), and the pair (6, 7), in which the first cell's word is.
            self.assertIsNone(answer_in(house, case, self.half_closed(house, words, 0, 1)))
            self.assertIsNone(answer_in(house, case, self.half_closed(house, words, 6, 1)))
            self.assertIsNone(answer_in(house, case, self.half_closed(house, words, 0, 3)))
            # Elsewhere it doesn't matter.
            told = ("answer", 1) if row == 7 else ("open",)
            self.assertEqual(answer_in(house, case, self.half_closed(house, words, 4, 1)), told)
            self.assertEqual(answer_in(house, case, self.half_closed(house, words, 31, 4)), told)

    def test_by_names_and_again(self):
        house = House()
        case = (CALLS, (), 10, 2)
        seal = put_in(house, seal_of(house, begin(CALLS, ())), depth_of(CALLS), 0, 7)
        many = house.many()
        told = answer_in(house=house, case=case, seal=seal)
        self.assertEqual(told, ("answer", 1))
        self.assertIs(type(told), tuple)
        self.assertEqual(answer_in(house, case, seal), told)
        self.assertEqual(house.many(), many)


if __name__ == "__main__":
    unittest.main()
