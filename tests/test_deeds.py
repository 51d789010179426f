"""The deeds of a row: what each opens, in order, what it writes, and where it can't be done."""

import pathlib
import random
import sys
import unittest

sys.path.insert(0, str(pathlib.Path(__file__).resolve().parent))

from making import Maker, stand
from stepcourt.deeds import deed_done, deed_writes, needed
from stepcourt.layout import begin, room_at, waits_at
from stepcourt.machine import row_done
from stepcourt.maker import code_of
from stepcourt.reader import read
from stepcourt.words import value

PROGRAM = read(
    "cell a 1\ncell b 2\nrow r 3\ndef f\ncall f\nend\nmain\n"
    "set b (+ a 7)\nput r a (at r b)\nwhile a\ncall f\nend\nend"
)
CODE = (
    ("get", 0), ("num", 7), ("op", "+"), ("set", 1),
    ("get", 0), ("get", 1), ("at", 2, 3), ("put", 2, 3),
    ("get", 0), ("zero", 12), ("call", 13), ("go", 8), ("end",),
    ("call", 13), ("back",),
)
KINDS = ("get", "num", "op", "set", "at", "put", "zero", "call", "go", "end", "back")
BOXES = (10, 20, 30, 31, 32)
ROOM, WAITS = 11, 19
LAST = 4294967295


def words_of(kind, **parts):
    """The words of a stand at a row of this sort, as a dict."""
    row = [row[0] for row in CODE].index(kind)
    return dict(enumerate(stand(PROGRAM, **{"boxes": BOXES, "row": row, **parts})))


def opened_in_order(program, words):
    """The numbers that a deed opens, asked for one by one; each step is handed what was opened so far."""
    known = {}
    while True:
        number = needed(program, known)
        if number is None:
            return list(known)
        assert number not in known
        known[number] = words[number]


class Deeds(unittest.TestCase):
    def deed(self, words, opens, writes):
        """That a deed from these words opens and writes so, and the stand behind is as that tells."""
        self.assertEqual(opened_in_order(PROGRAM, words), opens)
        known = {number: words[number] for number in opens}
        self.assertEqual(deed_writes(PROGRAM, known), writes)
        self.assertIsNone(needed(PROGRAM, known))
        self.assertEqual(deed_writes(PROGRAM, words), writes)
        self.assertEqual(deed_done(PROGRAM, tuple(words.values())), tuple({**words, **writes}.values()))

    def deeds(self, kind, parts, told):
        """That the deeds of this sort of row, from 0 on, are as told; the next ones up to 6 write their number."""
        for deed in range(7):
            words = words_of(kind, deed=deed, **parts)
            opens, writes = told[deed] if deed < len(told) else ([0, 1], {})
            self.deed(words, opens, {1: deed + 1, **writes})

    def test_the_code(self):
        self.assertEqual(code_of(PROGRAM), CODE)
        self.assertEqual((room_at(PROGRAM), waits_at(PROGRAM)), (ROOM, WAITS))

    def test_num(self):
        self.deeds("num", {"room": (5, 6)}, [([0, 1, 2, ROOM + 2], {ROOM + 2: 7}), ([0, 1, 2], {2: 3})])

    def test_get(self):
        self.deeds("get", {"room": (5,)}, [([0, 1, 2, 6, ROOM + 1], {ROOM + 1: 10}), ([0, 1, 2], {2: 2})])

    def test_set(self):
        self.deeds(
            "set", {"room": (5, 9)},
            [([0, 1, 2, 7, ROOM + 1], {7: 9}), ([0, 1, 2, ROOM + 1], {ROOM + 1: 0}), ([0, 1, 2], {2: 1})],
        )

    def test_at(self):
        for left, box in ((0, 8), (1, 9), (2, 10), (3, 8), (4, 9), (LAST, 8)):
            self.deeds(
                "at", {"room": (5, 77), "left": left},
                [
                    ([0, 1, 5, 2, ROOM + 1], {5: 77}),
                    ([0, 1, 5, 2, box, ROOM + 1], {ROOM + 1: BOXES[box - 6]}),
                ],
            )

    def test_put(self):
        for left, box in ((0, 8), (1, 9), (2, 10), (3, 8), (5, 10), (LAST, 8)):
            self.deeds(
                "put", {"room": (5, 77, 88), "left": left},
                [
                    ([0, 1, 5, 2, ROOM + 1], {5: 77}),
                    ([0, 1, 5, 2, box, ROOM + 2], {box: 88}),
                    ([0, 1, 2, ROOM + 2], {ROOM + 2: 0}),
                    ([0, 1, 2, ROOM + 1], {ROOM + 1: 0}),
                    ([0, 1, 2], {2: 1}),
                ],
            )

    def test_op(self):
        self.deeds(
            "op", {"room": (5, 77, 88), "left": 4},
            [
                ([0, 1, 5, 2, ROOM + 2], {5: 88}),
                ([0, 1, 5, 2, ROOM + 1], {ROOM + 1: 81}),
                ([0, 1, 2, ROOM + 2], {ROOM + 2: 0}),
                ([0, 1, 2], {2: 2}),
            ],
        )

    def test_op_by_the_rest(self):
        words = words_of("op", room=(LAST, 3), deed=1, left=3)
        self.deed(words, [0, 1, 5, 2, ROOM], {1: 2, ROOM: 2})

    def test_each_sign(self):
        for sign, word in (("+", 7), ("-", 3), ("*", 10), ("<", 0), ("=", 0)):
            program = read("cell a 0\nmain\nset a (" + sign + " 5 2)\nend")
            words = stand(program, boxes=(0,), row=2, room=(5, 2), deed=1, left=2)
            self.assertEqual(deed_writes(program, dict(enumerate(words))), {1: 2, room_at(program): word})

    def test_zero(self):
        for word, left in ((0, 1), (1, 0), (LAST, 0)):
            self.deeds(
                "zero", {"room": (5, word), "left": 9},
                [
                    ([0, 1, 5, 2, ROOM + 1], {5: left}),
                    ([0, 1, 2, ROOM + 1], {ROOM + 1: 0}),
                    ([0, 1, 2], {2: 1}),
                ],
            )

    def test_call(self):
        self.deeds(
            "call", {"waits": (4, 5), "left": 1, "calls": 8},
            [
                ([0, 1, 5, 3], {5: 1}),
                ([0, 1, 5, 3, WAITS + 2], {WAITS + 2: 11}),
                ([0, 1, 5, 3], {3: 3}),
                ([0, 1, 5, 4], {4: 9}),
            ],
        )

    def test_call_with_left_other_than_one(self):
        for left in (0, 2, LAST):
            self.deeds("call", {"left": left}, [([0, 1, 5, 3], {5: 1})] + [([0, 1, 5], {})] * 3)

    def test_call_where_all_wait(self):
        for wait, left in ((0, 1), (5, 1), (6, 0), (7, 0), (LAST, 0)):
            words = words_of("call", waits=(1,) * 6, wait=wait, left=3)
            self.deed(words, [0, 1, 5, 3], {1: 1, 5: left})

    def test_calls_done_by_the_rest(self):
        self.deed(words_of("call", deed=3, left=1, calls=LAST), [0, 1, 5, 4], {1: 4, 4: 0})
        self.deed(words_of("call", deed=3, left=1, calls=LAST - 1), [0, 1, 5, 4], {1: 4, 4: LAST})

    def test_back(self):
        self.deeds(
            "back", {"waits": (4, 5), "left": 9},
            [([0, 1, 5, 3, WAITS + 1], {5: 5}), ([0, 1, 3, WAITS + 1], {WAITS + 1: 0}), ([0, 1, 3], {3: 1})],
        )

    def test_go_and_end(self):
        self.deeds("go", {}, [])
        self.deeds("end", {}, [])

    def test_deed_seven_goes_to_the_next_row(self):
        for kind, row in (("get", 1), ("num", 2), ("op", 3), ("set", 4), ("at", 7), ("put", 8)):
            for left in (0, 1, 77):
                self.deed(words_of(kind, deed=7, left=left), [0, 1, 5], {0: row, 1: 0, 5: 0})

    def test_deed_seven_goes_elsewhere(self):
        for kind, left, row in (
            ("go", 0, 8), ("go", 1, 8), ("end", 0, 12), ("end", 1, 12),
            ("zero", 1, 12), ("zero", 0, 10), ("zero", 2, 10), ("zero", LAST, 10),
            ("call", 1, 13), ("call", 0, 10), ("call", 2, 10), ("back", 0, 0), ("back", 5, 5), ("back", LAST, LAST),
        ):
            self.deed(words_of(kind, deed=7, left=left), [0, 1, 5], {0: row, 1: 0, 5: 0})

    def test_what_stays_as_it_was_is_written_too(self):
        self.deed(words_of("set", room=(20,)), [0, 1, 2, 7, ROOM], {1: 1, 7: 20})
        self.deed(words_of("set", room=(0,), deed=1), [0, 1, 2, ROOM], {1: 2, ROOM: 0})
        self.deed(words_of("zero", room=(5,), left=0), [0, 1, 5, 2, ROOM], {1: 1, 5: 0})


class Impossible(unittest.TestCase):
    def impossible(self, words, opens):
        """That a deed from these words can't be done, as soon as these are opened, and not ahead of that."""
        self.assertEqual(opened_in_order(PROGRAM, words), opens)
        known = {number: words[number] for number in opens}
        for asked in (known, words):
            self.assertIsNone(needed(PROGRAM, asked))
            self.assertIsNone(deed_writes(PROGRAM, asked))
        self.assertIsNone(deed_done(PROGRAM, tuple(words.values())))

    def test_a_row_that_there_is_not(self):
        for row in (15, 16, 1000, LAST):
            for deed in (0, 7, 8):
                self.impossible({**words_of("end"), 0: row, 1: deed}, [0])
        self.assertEqual(needed(PROGRAM, {0: 14}), 1)

    def test_a_deed_above_seven(self):
        for kind in KINDS:
            for deed in (8, 9, 100, LAST):
                self.impossible(words_of(kind, deed=deed), [0, 1])

    def test_places_of_the_room(self):
        # For each deed that reads or writes R: the words opened up to the top, and how far beneath the top it is.
        for kind, deed, opens, beneath in (
            ("num", 0, [0, 1, 2], 0), ("get", 0, [0, 1, 2], 0),
            ("set", 0, [0, 1, 2], 1), ("set", 1, [0, 1, 2], 1),
            ("at", 0, [0, 1, 5, 2], 1), ("at", 1, [0, 1, 5, 2], 1),
            ("put", 0, [0, 1, 5, 2], 2), ("put", 1, [0, 1, 5, 2], 1),
            ("put", 2, [0, 1, 2], 1), ("put", 3, [0, 1, 2], 2),
            ("op", 0, [0, 1, 5, 2], 1), ("op", 1, [0, 1, 5, 2], 2), ("op", 2, [0, 1, 2], 1),
            ("zero", 0, [0, 1, 5, 2], 1), ("zero", 1, [0, 1, 2], 1),
        ):
            for top in (0, 1, 2, 7, 8, 9, 10, 11, 100, LAST):
                words = words_of(kind, deed=deed, room=(1,) * 8, top=top)
                if 0 <= top - beneath < 8:
                    self.assertIn(ROOM + top - beneath, opened_in_order(PROGRAM, words))
                    self.assertIsNotNone(deed_writes(PROGRAM, words))
                else:
                    self.impossible(words, opens)

    def test_places_of_the_waits(self):
        for kind, deed, opens, beneath in (
            ("call", 1, [0, 1, 5, 3], 0), ("back", 0, [0, 1, 5, 3], 1), ("back", 1, [0, 1, 3], 1)
        ):
            for wait in (0, 1, 5, 6, 7, 8, 100, LAST):
                words = words_of(kind, deed=deed, left=1, waits=(1,) * 6, wait=wait)
                if 0 <= wait - beneath < 6:
                    self.assertIn(WAITS + wait - beneath, opened_in_order(PROGRAM, words))
                    self.assertIsNotNone(deed_writes(PROGRAM, words))
                else:
                    self.impossible(words, opens)

    def test_a_top_that_is_no_word(self):
        for kind, deed in (("num", 1), ("get", 1)):
            self.impossible(words_of(kind, deed=deed, top=LAST), [0, 1, 2])
            for top in (0, 8, 100, LAST - 1):
                self.assertEqual(deed_writes(PROGRAM, words_of(kind, deed=deed, top=top))[2], top + 1)
        for kind, deed, less in (("set", 2, 1), ("op", 3, 1), ("zero", 2, 1), ("put", 4, 2)):
            for top in range(less):
                self.impossible(words_of(kind, deed=deed, top=top), [0, 1, 2])
            for top in (less, 8, 9, 100, LAST):
                self.assertEqual(deed_writes(PROGRAM, words_of(kind, deed=deed, top=top))[2], top - less)

    def test_a_wait_that_is_no_word(self):
        self.impossible(words_of("call", deed=2, left=1, wait=LAST), [0, 1, 5, 3])
        self.impossible(words_of("back", deed=2, wait=0), [0, 1, 3])
        for wait in (6, 7, LAST - 1):
            self.assertEqual(deed_writes(PROGRAM, words_of("call", deed=2, left=1, wait=wait)), {1: 3, 3: wait + 1})
        for wait in (1, 7, LAST):
            self.assertEqual(deed_writes(PROGRAM, words_of("back", deed=2, wait=wait)), {1: 3, 3: wait - 1})

    def test_a_call_that_is_not_done_can_be_done_whatever_waits(self):
        for deed in (1, 2, 3):
            for wait in (6, LAST):
                words = words_of("call", deed=deed, left=0, wait=wait)
                self.assertEqual(deed_writes(PROGRAM, words), {1: deed + 1})


class Known(unittest.TestCase):
    def test_nothing(self):
        self.assertEqual(needed(PROGRAM, {}), 0)

    def test_what_is_not_opened_never_matters(self):
        known = {0: 3, 1: 0, 2: 1, 7: 20, ROOM: 5}
        for other in (3, 4, 5, 6, 8, ROOM + 1, WAITS, 31):
            for word in (0, 8, LAST):
                self.assertEqual(deed_writes(PROGRAM, {**known, other: word}), {1: 1, 7: 5})
                self.assertIsNone(needed(PROGRAM, {**known, other: word}))
        self.assertEqual(needed(PROGRAM, {0: 12, 1: 3, 2: LAST, 3: LAST, 4: LAST, 5: LAST}), None)
        self.assertEqual(deed_writes(PROGRAM, {0: 12, 1: 3, 2: LAST, 3: LAST, 4: LAST, 5: LAST}), {1: 4})

    def test_the_first_that_lacks(self):
        words = words_of("put", deed=1, room=(1, 2), left=4)
        order = [0, 1, 5, 2, 9, ROOM + 1]
        for many in range(len(order)):
            known = {number: words[number] for number in order[:many]}
            self.assertEqual(needed(PROGRAM, known), order[many])
            self.assertEqual(needed(PROGRAM, {**known, 3: 0, 4: 0, 31: 7}), order[many])

    def test_some_of_the_words_out_of_order(self):
        words = words_of("put", deed=1, room=(1, 2), left=4)
        order = [0, 1, 5, 2, 9, ROOM + 1]
        for number in order:
            known = {other: words[other] for other in order if other != number}
            self.assertEqual(needed(PROGRAM, known), number)
        self.assertEqual(needed(PROGRAM, {2: 0, 5: 1}), 0)
        self.assertEqual(needed(PROGRAM, {0: 0, 2: 8}), 1)

    def test_what_is_known_out_of_order_tells_too_that_it_can_not_be_done(self):
        self.assertIsNone(needed(PROGRAM, {1: 8}))
        self.assertIsNone(needed(PROGRAM, {0: 7, 1: 1, 2: 0}))
        self.assertIsNone(deed_writes(PROGRAM, {0: 7, 1: 1, 2: 0}))

    def test_nothing_is_written_while_words_lack(self):
        for known in ({}, {0: 3}, {0: 3, 1: 0}, {0: 3, 1: 0, 2: 1}, {0: 3, 1: 0, 2: 1, 7: 20}):
            self.assertIsNone(deed_writes(PROGRAM, known))

    def test_the_known_words_stay(self):
        known = words_of("set", room=(5,))
        kept = dict(known)
        told = deed_writes(program=PROGRAM, known=known)
        self.assertIs(type(told), dict)
        told.clear()
        self.assertEqual(deed_writes(PROGRAM, known), {1: 1, 7: 5})
        self.assertIsNone(needed(program=PROGRAM, known=known))
        self.assertEqual(known, kept)

    def test_done_by_names(self):
        first = begin(PROGRAM, ())
        told = deed_done(program=PROGRAM, stand=first)
        self.assertIs(type(told), tuple)
        self.assertEqual(told, stand(PROGRAM, boxes=(1, 2, 0, 0, 0), deed=1, room=(1,), top=0))
        self.assertEqual(deed_done(PROGRAM, first), told)
        self.assertEqual(first, begin(PROGRAM, ()))


class CanNot(Exception):
    """The deed can't be done."""


class Spy:
    """A stand's words, each reading and writing noted down."""

    def __init__(self, program, words):
        self.words = dict(enumerate(words))
        self.room, self.waits = room_at(program), waits_at(program)
        self.touched, self.writes = {0, 1}, {}

    def get(self, number):
        self.touched.add(number)
        return self.words[number]

    def put(self, number, word):
        self.touched.add(number)
        if not 0 <= word <= LAST:
            raise CanNot
        self.writes[number] = word

    def r(self, beneath):
        place = self.get(2) - beneath
        if not 0 <= place < 8:
            raise CanNot
        return self.room + place

    def w(self, beneath):
        place = self.get(3) - beneath
        if not 0 <= place < 6:
            raise CanNot
        return self.waits + place

    def b(self, row):
        return 6 + row[1] + self.get(5) % row[2]


def spied(program, words):
    """What a deed touches, in order, and writes, told anew from the document's rows; None where it can't be done."""
    spy, code = Spy(program, words), code_of(program)
    here, deed = words[0], words[1]
    if here >= len(code) or deed > 7:
        raise CanNot
    row = code[here]
    get, put, r, w = spy.get, spy.put, spy.r, spy.w
    told = {
        ("num", 0): lambda: put(r(0), row[1]),
        ("num", 1): lambda: put(2, get(2) + 1),
        ("get", 0): lambda: put(r(0), get(6 + row[1])),
        ("get", 1): lambda: put(2, get(2) + 1),
        ("set", 0): lambda: put(6 + row[1], get(r(1))),
        ("set", 1): lambda: put(r(1), 0),
        ("set", 2): lambda: put(2, get(2) - 1),
        ("at", 0): lambda: put(5, get(r(1))),
        ("at", 1): lambda: put(r(1), get(spy.b(row))),
        ("put", 0): lambda: put(5, get(r(2))),
        ("put", 1): lambda: put(spy.b(row), get(r(1))),
        ("put", 2): lambda: put(r(1), 0),
        ("put", 3): lambda: put(r(2), 0),
        ("put", 4): lambda: put(2, get(2) - 2),
        ("op", 0): lambda: put(5, get(r(1))),
        ("op", 1): lambda: put(r(2), value(row[1], get(r(2)), get(5))),
        ("op", 2): lambda: put(r(1), 0),
        ("op", 3): lambda: put(2, get(2) - 1),
        ("zero", 0): lambda: put(5, 1 if get(r(1)) == 0 else 0),
        ("zero", 1): lambda: put(r(1), 0),
        ("zero", 2): lambda: put(2, get(2) - 1),
        ("call", 0): lambda: put(5, 1 if get(3) < 6 else 0),
        ("call", 1): lambda: get(5) == 1 and put(w(0), here + 1),
        ("call", 2): lambda: get(5) == 1 and put(3, get(3) + 1),
        ("call", 3): lambda: get(5) == 1 and put(4, (get(4) + 1) % 2 ** 32),
        ("back", 0): lambda: put(5, get(w(1))),
        ("back", 1): lambda: put(w(1), 0),
        ("back", 2): lambda: put(3, get(3) - 1),
    }
    if deed < 7:
        told.get((row[0], deed), lambda: None)()
        put(1, deed + 1)
    else:
        left = get(5)
        goes = {
            "go": row[-1], "zero": row[-1] if left == 1 else here + 1, "call": row[-1] if left == 1 else here,
            "back": left, "end": here,
        }
        put(0, goes.get(row[0], here + 1))
        put(1, 0)
        put(5, 0)
    order = [0, 1, 5, 2, 3, 4] + list(range(6, len(words)))
    return [number for number in order if number in spy.touched], spy.writes


def wild_words(chance, program):
    """Words of no stand, but often near to one."""
    size = len(begin(program, ()))
    words = [chance.choice((0, 1, 2, 5, chance.randrange(2 ** 32))) for turn in range(size)]
    rows = len(code_of(program))
    words[0] = chance.choice((chance.randrange(rows), chance.randrange(rows), chance.randrange(rows), rows))
    words[1] = chance.choice((0, 0, 1, 1, 2, 3, 4, 5, 6, 7, 8))
    words[2] = chance.choice((0, 1, 2, 3, 4, 5, 6, 7, 8, 9, 10, LAST))
    words[3] = chance.choice((0, 1, 2, 3, 4, 5, 6, 7, 8, LAST))
    words[4] = chance.choice((0, 1, LAST))
    words[5] = chance.choice((0, 1, 1, 2, LAST))
    return tuple(words)


class Many(unittest.TestCase):
    def test_any_words(self):
        possible = 0
        programs = [Maker(seed).program() for seed in range(100)]
        for seed in range(1200):
            chance = random.Random(seed)
            program = programs[seed % 100]
            words = wild_words(chance, program)
            for turn in range(3):
                try:
                    order, writes = spied(program, words)
                except CanNot:
                    self.assertIsNone(deed_done(program, words))
                    self.assertIsNone(deed_writes(program, dict(enumerate(words))))
                    self.assertIsNone(needed(program, dict(enumerate(words))))
                    break
                possible += 1
                self.assertEqual(opened_in_order(program, words), order)
                self.assertEqual(deed_writes(program, {number: words[number] for number in order}), writes)
                behind = tuple([writes.get(number, word) for number, word in enumerate(words)])
                self.assertEqual(deed_done(program, words), behind)
                words = behind
        self.assertGreater(possible, 500)

    def test_eight_deeds_are_a_row(self):
        rows, kinds = 0, set()
        for seed in range(40):
            maker = Maker(seed)
            program = maker.program()
            now = begin(program, maker.numbers(program))
            for turn in range(40):
                kinds.add(code_of(program)[now[0]][0])
                behind = now
                for deed in range(8):
                    self.assertEqual(behind[1], deed)
                    before, behind = behind, deed_done(program, behind)
                    unlike = [number for number in range(2, len(now)) if before[number] != behind[number]]
                    self.assertLessEqual(len(unlike), 1)
                self.assertEqual(behind, row_done(program, now))
                rows += 1
                if behind == now:
                    break
                now = behind
        self.assertGreater(rows, 500)
        self.assertEqual(kinds, set(KINDS))

    def test_eight_deeds_from_any_words(self):
        rows = 0
        for seed in range(400):
            chance = random.Random(seed)
            program = Maker(seed % 20).program()
            first = wild_words(chance, program)
            first = first[:1] + (0,) + first[2:5] + (0,) + first[6:]
            behind = first
            while behind is not None and (behind == first or behind[1] > 0):
                behind = deed_done(program, behind)
                if behind is not None and behind[1] == 0:
                    rows += 1
                    self.assertEqual(row_done(program, first), behind)
                    break
        self.assertGreater(rows, 100)

    def test_eight_deeds_of_rows_that_stay(self):
        program = read("cell a 0\ndef f\ncall f\nend\nmain\ncall f\nend")
        for parts in ({"row": 1}, {"row": 0, "waits": (1, 3, 3, 3, 3, 3)}, {"row": 2, "waits": (1, 3, 3, 3, 3, 3)}):
            first = stand(program, boxes=(4,), calls=6, **parts)
            now = first
            for deed in range(8):
                now = deed_done(program, now)
            self.assertEqual(now, first)
            self.assertEqual(row_done(program, first), first)


if __name__ == "__main__":
    unittest.main()
