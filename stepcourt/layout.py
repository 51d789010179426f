"""Where the words of a stand are, and the stand at the begin."""

from stepcourt.maker import code_of
from stepcourt.words import ROOM, WAITS, doublings

FIRST_BOX = 6


def room_at(program):
    """The number of the room's first word."""
    return FIRST_BOX + len(program[0]) + sum([row[1] for row in program[1]])


def waits_at(program):
    """The number of the first word of the waits."""
    return room_at(program) + ROOM


def depth_of(program):
    """The depth of a program's stands."""
    return doublings(waits_at(program) + WAITS)


def stand_of(program, head, cells, rows, waits):
    """The stand with these first words, words of the cells and of each row, and waits; its other words are 0."""
    words = list(head) + list(cells)
    for row in rows:
        words.extend(row)
    words.extend([0] * ROOM)
    words.extend(waits)
    size = 1
    for turn in range(depth_of(program)):
        size = 2 * size
    return tuple(words + [0] * (size - len(words)))


def begin(program, numbers):
    """The stand at the begin."""
    cells = list(numbers) + [cell[1] for cell in program[0][len(numbers):]]
    rows = [[0] * row[1] for row in program[1]]
    return stand_of(program, [0] * FIRST_BOX, cells, rows, [])


class Layout:
    """The code of a program and the places of its stands, made once for many rows and deeds."""

    def __init__(self, program):
        self.code = code_of(program)
        self.room = room_at(program)
        self.waits = waits_at(program)
