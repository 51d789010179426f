"""Programs run plainly, statement by statement."""

from stepcourt.errors import TooLong
from stepcourt.forms import called_in
from stepcourt.words import WAITS, value


class Frame:
    """A body that is being done: the place of its next statement, and the number of the next call from there."""

    def __init__(self, body, number, called):
        self.body = body
        self.place = 0
        self.number = number
        self.called = called


class Run:
    """How a run stands; frames are the bodies being done, outermost first."""

    def __init__(self, program, numbers, most):
        self.cells = dict(program[0])
        for cell, word in zip(program[0], numbers):
            self.cells[cell[0]] = word
        self.rows = {}
        for name, length in program[1]:
            self.rows[name] = [0] * length
        self.defs = {}
        number = 0
        for name, body in program[2]:
            self.defs[name] = (body, number)
            number += len(called_in(body))
        self.frames = [Frame(program[3], number, False)]
        self.waiting = []
        self.states = []
        self.turns = 0
        self.most = most
        self.stuck = False

    def go_on(self):
        frame = self.frames[-1]
        if frame.place < len(frame.body):
            self.count_turn()
            self.do_statement(frame, frame.body[frame.place])
            return
        self.frames.pop()
        if frame.called:
            self.waiting.pop()

    def count_turn(self):
        self.turns += 1
        if self.turns > self.most:
            raise TooLong(self.most)

    def do_statement(self, frame, statement):
        kind = statement[0]
        if kind == "while" and self.value_of(statement[1]) != 0:
            # The while stays the next statement, so that its term is told again, as a turn, behind the body.
            self.frames.append(Frame(statement[2], frame.number, False))
            return
        first = frame.number
        frame.place += 1
        frame.number += len(called_in((statement,)))
        if kind == "set":
            self.cells[statement[1]] = self.value_of(statement[2])
        elif kind == "put":
            self.do_put(statement)
        elif kind == "if":
            self.do_if(statement, first)
        elif kind == "call":
            self.do_call(statement[1], first)

    def do_put(self, statement):
        words = self.rows[statement[1]]
        place = self.value_of(statement[2]) % len(words)
        words[place] = self.value_of(statement[3])

    def do_if(self, statement, first):
        if self.value_of(statement[1]) != 0:
            self.frames.append(Frame(statement[2], first, False))
        else:
            self.frames.append(Frame(statement[3], first + len(called_in(statement[2])), False))

    def do_call(self, name, number):
        if len(self.waiting) >= WAITS:
            self.stuck = True
            return
        self.waiting.append(number)
        self.states.append((self.cell_words(), self.row_words(), tuple(self.waiting)))
        called = self.defs[name]
        self.frames.append(Frame(called[0], called[1], True))

    def value_of(self, term):
        if term[0] == "num":
            return term[1]
        if term[0] == "cell":
            return self.cells[term[1]]
        if term[0] == "at":
            words = self.rows[term[1]]
            return words[self.value_of(term[2]) % len(words)]
        return value(term[1], self.value_of(term[2]), self.value_of(term[3]))

    def cell_words(self):
        return tuple(self.cells.values())

    def row_words(self):
        return tuple([tuple(words) for words in self.rows.values()])


def plain_run(program, numbers, most):
    """The states behind the calls that were done, and the end; TooLong where it takes more turns than most."""
    run = Run(program, numbers, most)
    while run.frames and not run.stuck:
        run.go_on()
    word = "stuck" if run.stuck else "end"
    return (run.states, (word, run.cell_words(), run.row_words()))
