"""Many programs, made up from fixed seeds: what the modules tell of each agrees."""

import pathlib
import random
import sys
import unittest

sys.path.insert(0, str(pathlib.Path(__file__).resolve().parent))

from making import Maker, short_runs
from stepcourt.errors import NoProgram, NoText
from stepcourt.forms import calls_in, parts
from stepcourt.looker import look
from stepcourt.maker import boxes, call_rows, code_of, def_rows
from stepcourt.reader import read
from stepcourt.words import ROOM, WAITS, value
from stepcourt.writer import show, show_term

MANY = 400


class Rows:
    """Does a code row by row, as the document's machine does, on plain lists; do tells whether one was done."""

    def __init__(self, program, numbers):
        self.code = code_of(program)
        self.words = list(numbers) + [word for name, word in program[0][len(numbers):]]
        self.words += [0] * sum(length for name, length in program[1])
        self.room, self.waits, self.row, self.calls = [], [], 0, 0

    def do(self):
        row = self.code[self.row]
        here, self.row = self.row, self.row + 1
        kind = row[0]
        if kind == "num":
            self.room.append(row[1])
        elif kind == "get":
            self.room.append(self.words[row[1]])
        elif kind == "set":
            self.words[row[1]] = self.room.pop()
        elif kind == "at":
            self.room.append(self.words[row[1] + self.room.pop() % row[2]])
        elif kind == "put":
            word = self.room.pop()
            self.words[row[1] + self.room.pop() % row[2]] = word
        elif kind == "op":
            b = self.room.pop()
            self.room.append(value(row[1], self.room.pop(), b))
        elif kind == "go":
            self.row = row[1]
        elif kind == "zero":
            self.row = row[1] if self.room.pop() == 0 else self.row
        elif kind == "back":
            self.row = self.waits.pop()
        elif kind == "call" and len(self.waits) < WAITS:
            self.waits.append(self.row)
            self.calls, self.row = self.calls + 1, row[1]
        else:
            self.row = here
            return False
        assert len(self.room) <= ROOM
        return True


def first_unknown(program):
    """The first unknown name by a walk over the text's words, or None."""
    cells, rows, defs = [[pair[0] for pair in part] for part in program[:3]]
    known = {"set": cells, "put": rows, "call": defs, "(at": rows}
    text = show(program).split("\n")
    for row in text[len(cells) + len(rows):]:
        kind = cells
        for word in row.split(" "):
            word = word.rstrip(")")
            if word in ("def", "main"):
                break
            if word in known:
                kind = known[word]
            elif word.isalpha() and word not in ("while", "if", "else", "end"):
                if word not in kind:
                    return word
                kind = cells
    return None


class Together(unittest.TestCase):
    def test_each_has_one_text(self):
        texts = {}
        for seed in range(MANY):
            program = Maker(seed, strange=0.2).program()
            text = show(program)
            self.assertEqual(read(text), program)
            self.assertEqual(texts.setdefault(text, program), program)

    def test_a_text_with_a_sign_changed_is_no_other_text_of_it(self):
        for seed in range(60):
            chance = random.Random(seed)
            program = Maker(seed).program()
            text = show(program)
            for turn in range(60):
                place = chance.randrange(len(text))
                sign = chance.choice(("", " ", "\n", "(", ")", "0", "a", "="))
                changed = text[:place] + sign + text[place + chance.randint(0, 1):]
                try:
                    other = read(changed)
                except NoText as refusal:
                    rows = changed.split("\n")
                    self.assertLessEqual(0, refusal.row)
                    self.assertLessEqual(refusal.row, len(rows))
                    self.assertGreaterEqual(refusal.row, text[:place].count("\n"))
                else:
                    self.assertEqual(show(other), changed)

    def test_looked_at_as_the_text_stands(self):
        refused = 0
        for seed in range(MANY):
            self.assertIs(look(Maker(seed).program()), True)
            program = Maker(seed, strange=0.05).program()
            name = first_unknown(program)
            if name is None:
                self.assertIs(look(program), True)
                continue
            refused += 1
            with self.assertRaises(NoProgram) as taken:
                look(program)
            self.assertEqual((taken.exception.word, taken.exception.name), ("unknown", name))
        self.assertGreater(refused, 50)

    def test_the_rows_do_what_the_plain_run_tells(self):
        ends = {"end": 0, "stuck": 0, "calls": 0}
        for program, numbers, states, end in short_runs(MANY, 300):
            ends[end[0]] += 1
            ends["calls"] += len(states)
            self.compare(program, numbers, states, end)
        self.assertGreater(min(ends.values()), 5, ends)

    def compare(self, program, numbers, states, end):
        rows = Rows(program, numbers)
        for number, state in enumerate(states, start=1):
            while rows.calls < number:
                self.assertTrue(rows.do())
            self.assert_written(program, rows, state)
        while rows.do():
            self.assertEqual(rows.calls, len(states))
        kind = rows.code[rows.row][0]
        self.assertEqual(kind, "call" if end[0] == "stuck" else "end")
        self.assert_words(program, rows, end[1], end[2])

    def assert_written(self, program, rows, state):
        cells, row_words, waiting = state
        calls = call_rows(program)
        self.assert_words(program, rows, cells, row_words)
        self.assertEqual(rows.waits, [calls[number] + 1 for number in waiting])
        self.assertEqual(rows.room, [])
        self.assertEqual(rows.row, def_rows(program)[calls_in(program)[waiting[-1]]])

    def assert_words(self, program, rows, cells, row_words):
        self.assertEqual(tuple(rows.words[:len(cells)]), cells)
        for (name, length), words in zip(program[1], row_words):
            first = boxes(program)[name]
            self.assertEqual(tuple(rows.words[first:first + length]), words)

    def test_calls_and_their_rows(self):
        for seed in range(MANY):
            program = Maker(seed).program()
            code = code_of(program)
            told = [code[row] for row in call_rows(program)]
            self.assertEqual(told, [("call", def_rows(program)[name]) for name in calls_in(program)])
            self.assertEqual(len(told), len([row for row in code if row[0] == "call"]))

    def test_parts_by_the_text(self):
        for seed in range(MANY):
            term = Maker(seed).small_term()
            words = show_term(term).replace("(at ", "").replace("(", "").split(" ")
            self.assertEqual(parts(term), len(words))


if __name__ == "__main__":
    unittest.main()
