"""What several tests draw from: programs made up from a seed, their short runs, stands written out by parts."""

import random

from stepcourt.errors import TooLong
from stepcourt.forms import parts
from stepcourt.plain import plain_run
from stepcourt.words import WIDE

NAMES = ("a", "b", "x", "yz", "abcdef", "num", "op")
WORDS = (0, 1, 2, 3, 5, 7, 65536, WIDE - 2, WIDE - 1)


class Maker:
    """Makes up a program; most are let by, where names may be strange fewer are."""

    def __init__(self, seed, strange=0):
        self.chance = random.Random(seed)
        self.strange = strange
        self.left = 40
        pick = self.chance.sample
        self.cells = pick(NAMES, self.chance.randint(1, 6))
        self.rows = pick(NAMES, self.chance.randint(0, 3))
        self.defs = pick(NAMES, self.chance.randint(0, 3))

    def name(self, names):
        if self.chance.random() < self.strange:
            return self.chance.choice(NAMES)
        return self.chance.choice(names)

    def term(self, depth=0):
        kind = self.chance.randint(0, 9)
        if depth == 5 or kind < 3:
            return ("cell", self.name(self.cells)) if kind % 2 else ("num", self.chance.choice(WORDS))
        if kind < 5 and self.rows:
            return ("at", self.name(self.rows), self.term(depth + 1))
        return ("op", self.chance.choice("+-*<="), self.term(depth + 1), self.term(depth + 1))

    def small_term(self):
        term = self.term()
        while parts(term) > 20:
            term = self.term()
        return term

    def statement(self, depth):
        kind = self.chance.randint(0, 9)
        if kind < 2 and self.defs:
            return ("call", self.name(self.defs))
        if kind < 4 and self.rows:
            return ("put", self.name(self.rows), self.small_term(), self.small_term())
        if kind < 6 or depth == 3:
            return ("set", self.name(self.cells), self.small_term())
        if kind < 8:
            return ("if", self.small_term(), self.body(depth + 1), self.body(depth + 1))
        return ("while", self.small_term(), self.body(depth + 1))

    def body(self, depth):
        statements = []
        for turn in range(self.chance.randint(0, 4)):
            if self.left > 0:
                self.left -= 1
                statements.append(self.statement(depth))
        return tuple(statements)

    def program(self):
        cells = tuple([(name, self.chance.choice(WORDS)) for name in self.cells])
        rows = tuple([(name, self.chance.randint(1, 8)) for name in self.rows])
        defs = tuple([(name, self.body(0)) for name in self.defs])
        return (cells, rows, defs, self.body(0))

    def numbers(self, program):
        many = self.chance.randint(0, len(program[0]))
        return tuple([self.chance.choice(WORDS) for turn in range(many)])


def short_runs(many, most):
    """Of so many made-up programs and numbers those that run by at most so many turns, with what their runs tell."""
    for seed in range(many):
        maker = Maker(seed)
        program = maker.program()
        numbers = maker.numbers(program)
        try:
            states, end = plain_run(program, numbers, most)
        except TooLong:
            continue
        yield program, numbers, states, end


def stand(program, boxes, room=(), waits=(), **heads):
    """A stand of a program with these parts; the top and the wait are as many as the room's and the waits' words."""
    heads = {"top": len(room), "wait": len(waits), **heads}
    words = [heads.pop(name, 0) for name in ("row", "deed", "top", "wait", "calls", "left")]
    assert not heads, heads
    assert len(boxes) == len(program[0]) + sum(length for name, length in program[1])
    words += list(boxes) + list(room) + [0] * (8 - len(room)) + list(waits) + [0] * (6 - len(waits))
    size = 1
    while size < len(words):
        size *= 2
    return tuple(words + [0] * (size - len(words)))
