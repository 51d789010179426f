"""Rows done on stands, one by one and whole runs."""

import pathlib
import sys
import unittest

sys.path.insert(0, str(pathlib.Path(__file__).resolve().parent))

from making import short_runs, stand
from stepcourt.layout import begin, room_at, waits_at
from stepcourt.machine import row_done
from stepcourt.maker import boxes, call_rows, code_of
from stepcourt.plain import plain_run
from stepcourt.reader import read

PROGRAM = read(
    "cell a 1\ncell b 2\nrow r 3\ndef f\ncall f\nend\nmain\n"
    "set b (+ a 7)\nput r a (at r b)\nwhile a\ncall f\nend\nif b\nelse\nend\nend"
)
CODE = (
    ("get", 0), ("num", 7), ("op", "+"), ("set", 1),
    ("get", 0), ("get", 1), ("at", 2, 3), ("put", 2, 3),
    ("get", 0), ("zero", 12), ("call", 16), ("go", 8),
    ("get", 1), ("zero", 15), ("go", 15), ("end",),
    ("call", 16), ("back",),
)
BOXES = (10, 20, 30, 31, 32)
LAST = 4294967295


class Rows(unittest.TestCase):
    def done(self, before, after):
        """That a row done from the one stand, given by its parts, leads to the other."""
        first = stand(PROGRAM, **{"boxes": BOXES, **before})
        self.assertEqual(row_done(PROGRAM, first), stand(PROGRAM, **{"boxes": BOXES, **after}))

    def test_the_code(self):
        self.assertEqual(code_of(PROGRAM), CODE)

    def test_num(self):
        self.done({"row": 1}, {"row": 2, "room": (7,)})
        self.done({"row": 1, "room": (4, 5)}, {"row": 2, "room": (4, 5, 7)})
        self.done({"row": 1, "room": (1,) * 7}, {"row": 2, "room": (1,) * 7 + (7,)})

    def test_get(self):
        self.done({"row": 0}, {"row": 1, "room": (10,)})
        self.done({"row": 5, "room": (4,)}, {"row": 6, "room": (4, 20)})

    def test_set(self):
        self.done({"row": 3, "room": (99,)}, {"row": 4, "boxes": (10, 99, 30, 31, 32)})
        self.done({"row": 3, "room": (5, 0)}, {"row": 4, "room": (5,), "boxes": (10, 0, 30, 31, 32)})

    def test_at(self):
        for place, word in ((0, 30), (1, 31), (2, 32), (3, 30), (5, 32), (LAST, 30)):
            self.done({"row": 6, "room": (8, place)}, {"row": 7, "room": (8, word)})

    def test_put(self):
        for place, words in (
            (0, (77, 31, 32)), (1, (30, 77, 32)), (2, (30, 31, 77)), (3, (77, 31, 32)), (LAST - 1, (30, 31, 77))
        ):
            self.done({"row": 7, "room": (place, 77)}, {"row": 8, "boxes": (10, 20) + words})
        self.done({"row": 7, "room": (9, 1, 0)}, {"row": 8, "room": (9,), "boxes": (10, 20, 30, 0, 32)})

    def test_op(self):
        self.done({"row": 2, "room": (3, 4)}, {"row": 3, "room": (7,)})
        self.done({"row": 2, "room": (9, LAST, 1)}, {"row": 3, "room": (9, 0)})
        for sign, word in (("+", 7), ("-", 3), ("*", 10), ("<", 0), ("=", 0)):
            program = read("cell a 0\nmain\nset a (" + sign + " 5 2)\nend")
            first = stand(program, boxes=(0,), row=2, room=(5, 2))
            self.assertEqual(row_done(program, first), stand(program, boxes=(0,), row=3, room=(word,)))

    def test_go(self):
        self.done({"row": 11}, {"row": 8})
        self.done({"row": 14, "room": (3,), "waits": (4,)}, {"row": 15, "room": (3,), "waits": (4,)})

    def test_zero(self):
        self.done({"row": 9, "room": (0,)}, {"row": 12})
        self.done({"row": 9, "room": (1,)}, {"row": 10})
        self.done({"row": 9, "room": (0, LAST)}, {"row": 10, "room": (0,)})
        self.done({"row": 13, "room": (0,)}, {"row": 15})
        self.done({"row": 13, "room": (5,)}, {"row": 14})

    def test_call(self):
        self.done({"row": 10}, {"row": 16, "waits": (11,), "calls": 1})
        self.done({"row": 16, "waits": (11,), "calls": 8}, {"row": 16, "waits": (11, 17), "calls": 9})
        five = (11, 17, 17, 17, 17)
        self.done({"row": 16, "waits": five, "calls": 5}, {"row": 16, "waits": five + (17,), "calls": 6})

    def test_calls_done_by_the_rest(self):
        self.done({"row": 10, "calls": LAST}, {"row": 16, "waits": (11,), "calls": 0})
        self.done({"row": 10, "calls": LAST - 1}, {"row": 16, "waits": (11,), "calls": LAST})

    def test_the_seventh_waiting_call_stays(self):
        for row in (10, 16):
            parts = {"row": row, "waits": (11, 17, 17, 17, 17, 17), "calls": 6, "room": (1,)}
            self.done(parts, parts)

    def test_back(self):
        self.done({"row": 17, "waits": (11,)}, {"row": 11})
        self.done({"row": 17, "waits": (11, 17)}, {"row": 17, "waits": (11,)})
        self.done({"row": 17, "waits": (11, 17, 17, 17, 17, 15)}, {"row": 15, "waits": (11, 17, 17, 17, 17)})

    def test_end_stays(self):
        self.done({"row": 15}, {"row": 15})
        parts = {"row": 15, "room": (4,), "waits": (2,), "calls": 3}
        self.done(parts, parts)

    def test_kinds_and_names(self):
        first = begin(PROGRAM, ())
        told = row_done(program=PROGRAM, stand=first)
        self.assertIs(type(told), tuple)
        self.assertEqual(told, row_done(PROGRAM, first))
        self.assertEqual(first, stand(PROGRAM, boxes=(1, 2, 0, 0, 0)))

    def test_a_program_of_nothing(self):
        program = read("cell a 5\nmain\nend")
        self.assertEqual(row_done(program, begin(program, ())), begin(program, ()))


class Runs(unittest.TestCase):
    def run_rows(self, program, numbers, states, end):
        """Runs a program row by row, and holds it against the plain run behind each call and at the end."""
        code = code_of(program)
        now = begin(program, numbers)
        for number, state in enumerate(states, start=1):
            while now[4] < number:
                before, now = now, row_done(program, now)
                self.assertNotEqual(before, now)
            self.assertEqual(now[4], number)
            self.compare(program, now, state[:2], [call_rows(program)[call] + 1 for call in state[2]])
        before = None
        while before != now:
            before, now = now, row_done(program, now)
        self.assertEqual(now[4], len(states))
        if end[0] == "end":
            self.assertEqual(code[now[0]], ("end",))
            self.compare(program, now, end[1:], [])
        else:
            self.assertEqual(code[now[0]][0], "call")
            self.assertEqual(now[3], 6)
            self.compare(program, now, end[1:], list(now[waits_at(program):][:6]))
        return now

    def compare(self, program, now, words, waits):
        cells, rows = words
        room = room_at(program)
        self.assertEqual(now[6:6 + len(cells)], cells)
        for (name, length), row in zip(program[1], rows):
            first = 6 + boxes(program)[name]
            self.assertEqual(now[first:first + length], row)
        self.assertEqual((now[1], now[2], now[3], now[5]), (0, 0, len(waits), 0))
        self.assertEqual(now[room:], (0,) * 8 + tuple(waits) + (0,) * (len(now) - room - 8 - len(waits)))

    def test_a_known_run(self):
        program = read("cell n 5\ncell x 1\ndef f\nset x (* x n)\nset n (- n 1)\nend\nmain\nwhile n\ncall f\nend\nend")
        states, end = plain_run(program, (), 100)
        last = self.run_rows(program, (), states, end)
        self.assertEqual(last, stand(program, boxes=(0, 120), row=4, calls=5))

    def test_a_stuck_run(self):
        program = read("cell n 0\ndef f\nset n (+ n 1)\ncall f\nend\nmain\ncall f\nend")
        states, end = plain_run(program, (), 100)
        last = self.run_rows(program, (), states, end)
        self.assertEqual(last, stand(program, boxes=(6,), row=6, calls=6, waits=(1, 7, 7, 7, 7, 7)))

    def test_many_runs(self):
        ends = {"end": 0, "stuck": 0, "calls": 0}
        for program, numbers, states, end in short_runs(300, 60):
            ends[end[0]] += 1
            ends["calls"] += len(states)
            self.run_rows(program, numbers, states, end)
        self.assertGreater(min(ends.values()), 5, ends)


if __name__ == "__main__":
    unittest.main()
