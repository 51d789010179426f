"""The machine: rows done on stands."""

from stepcourt.layout import FIRST_BOX, Layout
from stepcourt.words import WAITS, WIDE, value


class Machine:
    """A stand's words while a row is done on them."""

    def __init__(self, layout, stand):
        self.room = layout.room
        self.waits = layout.waits
        self.words = list(stand)

    def lay(self, word):
        """Puts a word on top of the room."""
        self.words[self.room + self.words[2]] = word
        self.words[2] += 1

    def lift(self):
        """Takes the topmost word from the room."""
        self.words[2] -= 1
        topmost = self.room + self.words[2]
        word = self.words[topmost]
        self.words[topmost] = 0
        return word

    def do_row(self, row):
        """Does a row, and tells the row to go on."""
        words = self.words
        kind = row[0]
        if kind == "go":
            return row[1]
        if kind == "zero":
            return row[1] if self.lift() == 0 else words[0] + 1
        if kind == "call":
            return self.do_wait(row[1])
        if kind == "back":
            return self.do_back()
        if kind == "end":
            return words[0]
        self.do_words(kind, row)
        return words[0] + 1

    def do_words(self, kind, row):
        """Does a row that goes on with the next one."""
        words = self.words
        if kind == "num":
            self.lay(row[1])
        elif kind == "get":
            self.lay(words[FIRST_BOX + row[1]])
        elif kind == "set":
            words[FIRST_BOX + row[1]] = self.lift()
        elif kind == "at":
            self.lay(words[FIRST_BOX + row[1] + self.lift() % row[2]])
        elif kind == "put":
            word = self.lift()
            words[FIRST_BOX + row[1] + self.lift() % row[2]] = word
        elif kind == "op":
            b = self.lift()
            self.lay(value(row[1], self.lift(), b))

    def do_wait(self, called):
        words = self.words
        if words[3] >= WAITS:
            return words[0]
        words[self.waits + words[3]] = words[0] + 1
        words[3] += 1
        words[4] = (words[4] + 1) % WIDE
        return called

    def do_back(self):
        words = self.words
        words[3] -= 1
        topmost = self.waits + words[3]
        row = words[topmost]
        words[topmost] = 0
        return row


def stand_behind(layout, stand):
    """The stand behind a row done."""
    machine = Machine(layout, stand)
    machine.words[0] = machine.do_row(layout.code[stand[0]])
    return tuple(machine.words)


def row_done(program, stand):
    """The stand behind a row done from a stand with deed and left 0."""
    return stand_behind(Layout(program), stand)
