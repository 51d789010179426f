"""What is true at the places of the three floors."""

import pathlib
import random
import sys
import unittest

sys.path.insert(0, str(pathlib.Path(__file__).resolve().parent))

from making import Maker, short_runs, stand
from stepcourt.deeds import deed_done
from stepcourt.house import House
from stepcourt.layout import begin
from stepcourt.machine import row_done
from stepcourt.places import Places
from stepcourt.reader import read
from stepcourt.trees import seal_of
from stepcourt.written import written, written_end

TWICE = read("cell n 3\ncell x 1\ndef f\nset x (* x 2)\nset n (- n 1)\nend\nmain\nwhile n\ncall f\nend\nend")
DEEP = read("cell n 0\ndef f\nset n (+ n 1)\ncall f\nend\nmain\ncall f\nend")
ROWS = read("cell a 1\nmain\nset a 2\nend")
# The calls of main stand right behind one another, and f does nothing.
BARE = read("cell a 0\ndef f\nend\nmain\ncall f\ncall f\ncall f\nend")


def stands_of(case):
    """The stands at the rows 0 to n, by row_done."""
    program, numbers, n, m = case
    stands = [begin(program, numbers)]
    for row in range(n):
        stands.append(row_done(program, stands[-1]))
    return stands


def due_rows(case, stands, k):
    """The rows at call k."""
    program, numbers, n, m = case
    least = [rows for rows, now in enumerate(stands) if now[4] >= k]
    return n if k == m or not least else least[0]


class Rows(unittest.TestCase):
    def test_known_stands(self):
        house = House()
        places = Places(house, (ROWS, (), 4, 1))
        for row, parts in enumerate((
            {"boxes": (1,)}, {"boxes": (1,), "row": 1, "room": (2,)}, {"boxes": (2,), "row": 2},
            {"boxes": (2,), "row": 2}, {"boxes": (2,), "row": 2},
        )):
            self.assertEqual(places.at("rows", row), seal_of(house, stand(ROWS, **parts)))

    def test_numbers(self):
        house = House()
        for numbers, cells in (((), (3, 1)), ((9,), (9, 1)), ((9, 0), (9, 0))):
            places = Places(house, (TWICE, numbers, 5, 2))
            self.assertEqual(places.at("rows", 0), seal_of(house, stand(TWICE, boxes=cells)))

    def test_a_run_that_ends_ahead_of_n(self):
        house = House()
        places = Places(house, (TWICE, (0,), 50, 2))
        ends = {places.at("rows", row) for row in range(2, 51)}
        self.assertEqual(ends, {seal_of(house, stand(TWICE, boxes=(0, 1), row=4))})

    def test_a_run_that_is_stuck_ahead_of_n(self):
        house = House()
        places = Places(house, (DEEP, (), 100, 20))
        stuck = stand(DEEP, boxes=(6,), row=6, calls=6, waits=(1, 7, 7, 7, 7, 7))
        self.assertEqual(places.at("rows", 100), seal_of(house, stuck))
        self.assertEqual(places.at("rows", 31), places.at("rows", 30))
        self.assertNotEqual(places.at("rows", 30), places.at("rows", 29))


class Calls(unittest.TestCase):
    def test_known_rows(self):
        house = House()
        places = Places(house, (TWICE, (), 100, 4))
        # Two rows of the while, the call, then eight rows and back, and go.
        self.assertEqual([places.at("calls", k)[0] for k in range(5)], [0, 3, 3 + 13, 3 + 26, 100])
        first = stand(TWICE, boxes=(3, 1), row=5, calls=1, waits=(3,))
        self.assertEqual(places.at("calls", 1), (3, seal_of(house, first)))

    def test_call_nought_is_the_begin(self):
        house = House()
        for program in (TWICE, DEEP, ROWS, BARE):
            places = Places(house, (program, (), 7, 3))
            self.assertEqual(places.at("calls", 0), (0, seal_of(house, begin(program, ()))))

    def test_call_m_is_row_n(self):
        house = House()
        for m in (1, 2, 3, 5, 20):
            places = Places(house, (TWICE, (), 40, m))
            self.assertEqual(places.at("calls", m), (40, places.at("rows", 40)))
        places = Places(house, (BARE, (), 1, 1))
        self.assertEqual(places.at("calls", 1), (1, places.at("rows", 1)))

    def test_fewer_calls(self):
        house = House()
        places = Places(house, (TWICE, (), 50, 20))
        for k in range(4, 21):
            self.assertEqual(places.at("calls", k), (50, places.at("rows", 50)))
        self.assertEqual(places.at("calls", 3)[0], 29)
        for n, rows in ((28, 28), (29, 29), (30, 29)):
            places = Places(house, (TWICE, (), n, 20))
            self.assertEqual(places.at("calls", 3), (rows, places.at("rows", rows)))

    def test_a_program_without_calls(self):
        house = House()
        places = Places(house, (ROWS, (), 9, 5))
        self.assertEqual([places.at("calls", k)[0] for k in range(6)], [0, 9, 9, 9, 9, 9])

    def test_calls_right_behind_one_another(self):
        house = House()
        places = Places(house, (BARE, (), 9, 5))
        self.assertEqual([places.at("calls", k)[0] for k in range(6)], [0, 1, 3, 5, 9, 9])
        # A def that first of all calls another one.
        program = read("cell a 0\ndef f\nend\ndef g\ncall f\nend\nmain\ncall g\nend")
        places = Places(house, (program, (), 9, 5))
        self.assertEqual([places.at("calls", k)[0] for k in range(4)], [0, 1, 2, 9])
        waits = stand(program, boxes=(0,), row=2, calls=2, waits=(1, 4))
        self.assertEqual(places.at("calls", 2)[1], seal_of(house, waits))

    def test_six_waiting_calls(self):
        house = House()
        places = Places(house, (DEEP, (), 100, 10))
        self.assertEqual([places.at("calls", k)[0] for k in range(8)], [0, 1, 6, 11, 16, 21, 26, 100])
        six = stand(DEEP, boxes=(5,), row=2, calls=6, waits=(1, 7, 7, 7, 7, 7))
        self.assertEqual(places.at("calls", 6)[1], seal_of(house, six))


class Deeds(unittest.TestCase):
    def test_known_stands(self):
        house = House()
        places = Places(house, (ROWS, (), 4, 1))
        self.assertEqual(places.at("deeds", (0, 0)), seal_of(house, stand(ROWS, boxes=(1,))))
        self.assertEqual(places.at("deeds", (0, 1)), seal_of(house, stand(ROWS, boxes=(1,), deed=1, room=(2,), top=0)))
        self.assertEqual(places.at("deeds", (0, 2)), seal_of(house, stand(ROWS, boxes=(1,), deed=2, room=(2,))))
        self.assertEqual(places.at("deeds", (0, 7)), seal_of(house, stand(ROWS, boxes=(1,), deed=7, room=(2,))))
        self.assertEqual(places.at("deeds", (0, 8)), seal_of(house, stand(ROWS, boxes=(1,), row=1, room=(2,))))

    def test_deed_nought_and_deed_eight(self):
        house = House()
        for program in (TWICE, DEEP, ROWS, BARE):
            places = Places(house, (program, (), 60, 3))
            for row in range(60):
                self.assertEqual(places.at("deeds", (row, 0)), places.at("rows", row))
                self.assertEqual(places.at("deeds", (row, 8)), places.at("rows", row + 1))


class Asked(unittest.TestCase):
    def test_kinds_and_names(self):
        house = House()
        places = Places(house=house, case=(TWICE, (), 9, 2))
        told = places.at(floor="calls", place=1)
        self.assertIs(type(told), tuple)
        self.assertEqual([type(number) for number in told], [int, int])
        self.assertIs(type(places.at("rows", 3)), int)
        self.assertIs(type(places.at("deeds", (3, 4))), int)

    def all_places(self, case):
        program, numbers, n, m = case
        asked = [("calls", k) for k in range(m + 1)] + [("rows", row) for row in range(n + 1)]
        return asked + [("deeds", (row, p)) for row in range(n) for p in range(9)]

    def test_in_any_order_by_two_of_one_house(self):
        chance = random.Random(11)
        house = House()
        case = (TWICE, (2,), 30, 6)
        first, second = Places(house, case), Places(house, case)
        told = {}
        for turn in range(2):
            asked = self.all_places(case)
            chance.shuffle(asked)
            for floor, place in asked:
                one = chance.choice((first, second)).at(floor, place)
                self.assertEqual(told.setdefault((floor, place), one), one)
        for floor, place in self.all_places(case):
            self.assertEqual(first.at(floor, place), told[(floor, place)])
            self.assertEqual(second.at(floor, place), told[(floor, place)])

    def test_two_cases_of_one_house(self):
        house = House()
        one, other = Places(house, (TWICE, (2,), 30, 6)), Places(house, (TWICE, (3,), 30, 6))
        same = Places(house, (TWICE, (), 30, 6))
        for row in range(31):
            self.assertNotEqual(one.at("rows", row), other.at("rows", row))
            self.assertEqual(same.at("rows", row), other.at("rows", row))

    def test_many_cases_against_rows_and_deeds_done(self):
        for seed in range(40):
            maker = Maker(seed)
            chance = random.Random(seed)
            program = maker.program()
            case = (program, maker.numbers(program), chance.choice((1, 5, 30, 60)), chance.randint(1, 20))
            house = House()
            places = Places(house, case)
            stands = stands_of(case)
            n, m = case[2:]
            for k in chance.sample(range(m + 1), m + 1):
                rows = due_rows(case, stands, k)
                self.assertEqual(places.at("calls", k), (rows, seal_of(house, stands[rows])))
            for row in (0, n // 2, n):
                self.assertEqual(places.at("rows", row), seal_of(house, stands[row]))
            now = stands[n - 1]
            for deed in range(9):
                self.assertEqual(places.at("deeds", (n - 1, deed)), seal_of(house, now))
                now = deed_done(program, now)

    def test_against_the_plain_run_written_down(self):
        counts = {"end": 0, "stuck": 0, "calls": 0}
        for program, numbers, states, end in short_runs(300, 25):
            counts[end[0]] += 1
            house = House()
            places = Places(house, (program, numbers, 400, len(states) + 2))
            for k, state in enumerate(states, start=1):
                counts["calls"] += 1
                self.assertEqual(places.at("calls", k)[1], seal_of(house, written(program, state, k)))
            if end[0] == "end":
                last = seal_of(house, written_end(program, end, len(states)))
                self.assertEqual(places.at("rows", 400), last)
                self.assertEqual(places.at("calls", len(states) + 1), (400, last))
        self.assertGreater(min(counts.values()), 3, counts)


if __name__ == "__main__":
    unittest.main()
