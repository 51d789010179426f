"""States and ends of plain runs written down as stands, and the answer that a seal tells."""

from stepcourt.forms import calls_in
from stepcourt.layout import FIRST_BOX, depth_of, stand_of
from stepcourt.maker import call_rows, def_rows, end_row
from stepcourt.trees import word_in


def written(program, state, k):
    """The stand of a state right behind the k-th call that was done."""
    cells, rows, waiting = state
    called = calls_in(program)[waiting[-1]]
    calls = call_rows(program)
    head = (def_rows(program)[called], 0, 0, len(waiting), k, 0)
    return stand_of(program, head, cells, rows, [calls[number] + 1 for number in waiting])


def written_end(program, end, k):
    """The stand of an end behind k calls."""
    return stand_of(program, (end_row(program), 0, 0, 0, k, 0), end[1], end[2], [])


def answer_in(house, case, seal):
    """("answer", word) where a seal's stand is at end, ("open",) where it isn't; None where it isn't opened."""
    program = case[0]
    depth = depth_of(program)
    row = word_in(house, seal, depth, 0)
    word = word_in(house, seal, depth, FIRST_BOX)
    if row is None or word is None:
        return None
    return ("answer", word) if row == end_row(program) else ("open",)
