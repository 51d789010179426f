"""The eight small deeds of a row: which words each opens, in order, and what it writes."""

from stepcourt.layout import FIRST_BOX, Layout
from stepcourt.words import DEEDS, ROOM, WAITS, WIDE, value

# The deeds of each sort of row, from 0 on: the word that it writes, how that is made, and from which word. Words
# have the document's signs: R the room, t the top, W the waits, v the wait, b a box.
TOLD = {
    "num": (("R[t]", "told", "R[t]"), ("t", "one more", "t")),
    "get": (("R[t]", "same", "b"), ("t", "one more", "t")),
    "set": (("b", "same", "R[t-1]"), ("R[t-1]", "nought", "R[t-1]"), ("t", "one less", "t")),
    "at": (("left", "same", "R[t-1]"), ("R[t-1]", "same", "b[left]")),
    "put": (
        ("left", "same", "R[t-2]"),
        ("b[left]", "same", "R[t-1]"),
        ("R[t-1]", "nought", "R[t-1]"),
        ("R[t-2]", "nought", "R[t-2]"),
        ("t", "two less", "t"),
    ),
    "op": (
        ("left", "same", "R[t-1]"),
        ("R[t-2]", "value", "left"),
        ("R[t-1]", "nought", "R[t-1]"),
        ("t", "one less", "t"),
    ),
    "zero": (("left", "is nought", "R[t-1]"), ("R[t-1]", "nought", "R[t-1]"), ("t", "one less", "t")),
    "call": (
        ("left", "may wait", "v"),
        ("W[v]", "next row", "W[v]"),
        ("v", "one more", "v"),
        ("calls", "one more round", "calls"),
    ),
    "back": (("left", "same", "W[v-1]"), ("W[v-1]", "nought", "W[v-1]"), ("v", "one less", "v")),
    "go": (),
    "end": (),
}
# In the order in which they are opened.
FIRST_WORDS = {"left": 5, "t": 2, "v": 3, "calls": 4}
FOUND_BY = {"b[left]": "left", "R[t]": "t", "R[t-1]": "t", "R[t-2]": "t", "W[v]": "v", "W[v-1]": "v"}
BENEATH = {"R[t]": 0, "R[t-1]": 1, "R[t-2]": 2, "W[v]": 0, "W[v-1]": 1}
STEPS = {"one more": 1, "one less": -1, "two less": -2}


def told_deed(row, known):
    """The word that the next deed writes besides 1, how and from which; None where there is none."""
    deed = known[1]
    if row[0] == "call" and deed > 0 and known.get(5) != 1:
        return None
    return TOLD[row[0]][deed] if deed < len(TOLD[row[0]]) else None


def signs_of(row, known):
    """The signs of all words but 0 and 1 that the next deed reads or writes, as far as those known tell."""
    told = told_deed(row, known)
    signs = [] if told is None else [told[0], told[2]]
    if known[1] == DEEDS - 1 or (row[0] == "call" and known[1] < len(TOLD["call"])):
        signs.append("left")
    return signs


def found(sign, known):
    """Whether it is known where a word is."""
    return sign not in FOUND_BY or FIRST_WORDS[FOUND_BY[sign]] in known


def number_of(layout, row, sign, known):
    """The number of a word that is found, or None where there isn't such a one."""
    if sign in FIRST_WORDS:
        return FIRST_WORDS[sign]
    if sign == "b":
        return FIRST_BOX + row[1]
    if sign == "b[left]":
        return FIRST_BOX + row[1] + known[5] % row[2]
    place = known[FIRST_WORDS[FOUND_BY[sign]]] - BENEATH[sign]
    if FOUND_BY[sign] == "t":
        return layout.room + place if 0 <= place < ROOM else None
    return layout.waits + place if 0 <= place < WAITS else None


def opened_by(layout, known):
    """The numbers of the words that the next deed opens, in order, as far as those known tell; None where it can't."""
    if known.get(0, 0) >= len(layout.code) or known.get(1, 0) >= DEEDS:
        return None
    if 0 not in known or 1 not in known:
        return [0, 1]
    row = layout.code[known[0]]
    signs = signs_of(row, known)
    finders = [FOUND_BY[sign] for sign in signs if sign in FOUND_BY]
    ahead = [number for sign, number in FIRST_WORDS.items() if sign in signs + finders]
    numbers = [number_of(layout, row, sign, known) for sign in signs if found(sign, known)]
    if None in numbers:
        return None
    return [0, 1] + ahead + sorted(set([number for number in numbers if number >= FIRST_BOX]))


def needed_by(layout, known):
    """As needed, of a layout."""
    numbers = opened_by(layout, known)
    if numbers is None:
        return None
    missing = [number for number in numbers if number not in known]
    return missing[0] if missing else None


def made_word(row, told, known, place, source):
    """The word that a deed makes for a place, from another; it may come to be none."""
    how = told[1]
    word = known[source]
    if how == "same":
        return word
    if how == "told":
        return row[1]
    if how == "value":
        return value(row[1], known[place], word)
    if how == "is nought":
        return 1 if word == 0 else 0
    if how == "may wait":
        return 1 if word < WAITS else 0
    if how == "next row":
        return known[0] + 1
    if how == "one more round":
        return (word + 1) % WIDE
    if how == "nought":
        return 0
    return word + STEPS[how]


def row_behind(row, known):
    """Where a row goes on."""
    if row[0] == "go":
        return row[1]
    if row[0] == "zero":
        return row[1] if known[5] == 1 else known[0] + 1
    if row[0] == "call":
        return row[1] if known[5] == 1 else known[0]
    if row[0] == "back":
        return known[5]
    return known[0] if row[0] == "end" else known[0] + 1


def writes_by(layout, known):
    """As deed_writes, of a layout."""
    numbers = opened_by(layout, known)
    if numbers is None or not all([number in known for number in numbers]):
        return None
    row = layout.code[known[0]]
    if known[1] == DEEDS - 1:
        return {0: row_behind(row, known), 1: 0, 5: 0}
    writes = {1: known[1] + 1}
    told = told_deed(row, known)
    if told is not None:
        place = number_of(layout, row, told[0], known)
        word = made_word(row, told, known, place, number_of(layout, row, told[2], known))
        if word < 0 or word >= WIDE:
            return None
        writes[place] = word
    return writes


def deed_behind(layout, stand):
    """As deed_done, of a layout."""
    writes = writes_by(layout, dict(enumerate(stand)))
    if writes is None:
        return None
    words = list(stand)
    for number, word in writes.items():
        words[number] = word
    return tuple(words)


def needed(program, known):
    """The number of the word that the next deed opens next; None where it has opened all, or can't be done."""
    return needed_by(Layout(program), known)


def deed_writes(program, known):
    """All that the next deed writes, where all that it opens is known; None where it can't be done."""
    return writes_by(Layout(program), known)


def deed_done(program, stand):
    """The stand behind the next deed, or None where it can't be done."""
    return deed_behind(Layout(program), stand)
