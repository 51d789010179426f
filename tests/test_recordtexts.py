"""Records' texts: written, read back, and refused."""

import pathlib
import random
import re
import sys
import unittest

sys.path.insert(0, str(pathlib.Path(__file__).resolve().parent))

from courting import CASES, Astray, made_case, some_rules, some_seals, true_places
from stepcourt.dispute import Dispute, argued
from stepcourt.errors import CourtError, NoText
from stepcourt.house import House
from stepcourt.recordtexts import read_record, show_record
from stepcourt.speakers import Speaker

FLOORS = ("calls", "rows", "deeds")
WORDS = ("silent", "form", "late", "twice", "count", "closed", "deed")
NUMBERS = (
    0, 1, -1, 7, 10, 42, -305, 10 ** 12, 10 ** 12 - 1, 10 ** 17, 10 ** 18 - 1, -10 ** 17, 1 - 10 ** 18, 123456789012345678,
)

WHOLE = (
    ("claims", 12, -3),
    ("asked", "calls", 5, (0, 1), (((3, 17), 0), ((3, -18), 4))),
    ("asked", "rows", 7, (1,), ((33, 0),)),
    ("asked", "rows", 6, (0,), ((None, 2),)),
    ("asked", "deeds", (6, 4), (0, 1), ((None, 0), (9, 10 ** 18 - 1))),
    ("out", (0, 1), ("silent", "late"), (5, ((0, 2, (8, 9)), (1, 0, ())), -6)),
)
TEXT = """claims 12 -3
calls 5 : 3,17 0 | 3,-18 4
rows 7 by 1 : 33 0
rows 6 by 0 : none 2
deeds 6.4 : none 0 | 9 999999999999999999
out 0 silent 1 late
paper 5 to -6
leaf 0 2 by 8 9
leaf 1 0 by"""

N = "(?:0|-?[1-9][0-9]{0,17})"
SAID = f"(?:none|{N}|{N},{N}) {N}"
WORD = f"(?:{'|'.join(WORDS)})"
FORMS = {
    "claims": f"claims {N} {N}",
    "asked": f"(?:(?:calls|rows) {N}|deeds {N}[.]{N})(?: : {SAID} [|] {SAID}| by [01] : {SAID})",
    "out": f"out (?:0 {WORD}|1 {WORD}|0 {WORD} 1 {WORD})",
    "paper": f"paper {N} to {N}",
    "leaf": f"leaf {N} {N} by(?: {N})*",
}
BEHIND = {
    "": ("claims",), "claims": ("asked", "out"), "asked": ("asked", "out"), "out": ("paper",), "paper": ("leaf",),
    "leaf": ("leaf",),
}


def due_row(text):
    """The row at which a text is to be refused, or None."""
    rows = text.split("\n")
    last = ""
    for number, row in enumerate(rows):
        forms = [form for form in BEHIND[last] if re.fullmatch(FORMS[form], row)]
        if not forms:
            return number
        last = forms[0]
    return None if last in ("out", "paper", "leaf") else len(rows)


def some_said(chance):
    return chance.choice((None, chance.choice(NUMBERS), (chance.choice(NUMBERS), chance.choice(NUMBERS))))


def some_record(seed):
    """Any record of the form."""
    chance = random.Random(seed)
    rows = [("claims", chance.choice(NUMBERS), chance.choice(NUMBERS))]
    for turn in range(chance.randint(0, 6)):
        floor = chance.choice(FLOORS)
        place = (chance.choice(NUMBERS), chance.choice(NUMBERS)) if floor == "deeds" else chance.choice(NUMBERS)
        who = chance.choice(((0, 1), (0, 1), (0,), (1,)))
        rows.append(("asked", floor, place, who, tuple([(some_said(chance), chance.choice(NUMBERS)) for one in who])))
    who = chance.choice(((0, 1), (0,), (1,)))
    paper = None
    if chance.random() < 0.6:
        paths = []
        for path in range(chance.randint(0, 4)):
            siblings = tuple([chance.choice(NUMBERS) for sibling in range(chance.randint(0, 6))])
            paths.append((chance.choice(NUMBERS), chance.choice(NUMBERS), siblings))
        paper = (chance.choice(NUMBERS), tuple(paths), chance.choice(NUMBERS))
    rows.append(("out", who, tuple([chance.choice(WORDS) for one in who]), paper))
    return tuple(rows)


def disputes():
    """Records of disputes of all sorts."""
    for seed in range(120):
        chance = random.Random(seed)
        case = made_case(seed) if seed % 3 == 0 else chance.choice(CASES)
        house = House()
        places, true = true_places(house, case)
        liar = Astray(places, chance) if seed % 2 else Speaker(places, some_rules(chance, places))
        claim = liar.claim() if seed % 2 else chance.choice(some_seals(chance, places))
        other = Speaker(places, () if seed % 4 < 2 else some_rules(chance, places))
        if claim != true:
            dispute = Dispute(house, case, chance.choice((0, 100)), (true, claim))
            argued(dispute, other, liar)
            yield dispute.record()


class Shown(unittest.TestCase):
    def test_a_known_one(self):
        self.assertEqual(show_record(WHOLE), TEXT)
        self.assertEqual(show_record(record=WHOLE), TEXT)

    def test_each_row_alone(self):
        for row, text in (
            (("asked", "calls", 0, (0, 1), ((0, 0), (None, 0))), "calls 0 : 0 0 | none 0"),
            (("asked", "rows", 400, (0, 1), (((1, 2), 3), (4, 5))), "rows 400 : 1,2 3 | 4 5"),
            (("asked", "deeds", (0, 8), (1,), (((-1, -2), 3),)), "deeds 0.8 by 1 : -1,-2 3"),
            (("asked", "deeds", (-7, -8), (0,), ((-1, -3),)), "deeds -7.-8 by 0 : -1 -3"),
            (("out", (0,), ("deed",), None), "out 0 deed"), (("out", (1,), ("count",), None), "out 1 count"),
            (("out", (0, 1), ("form", "late"), None), "out 0 form 1 late"),
            (("out", (1,), ("deed",), (3, (), 4)), "out 1 deed\npaper 3 to 4"),
            (("out", (1,), ("deed",), (3, ((0, 0, ()),), 4)), "out 1 deed\npaper 3 to 4\nleaf 0 0 by"),
        ):
            self.assertEqual(show_record((("claims", 1, 2), row)), "claims 1 2\n" + text)

    def test_one_that_isnt_over(self):
        for many in range(1, 6):
            self.assertEqual(show_record(WHOLE[:many]), "\n".join(TEXT.split("\n")[:many]))
        dispute = Dispute(House(), CASES[0], 0, (-1, -2))
        self.assertEqual(show_record(dispute.record()), "claims -1 -2")

    def test_each_has_the_form(self):
        for seed in range(200):
            self.assertIsNone(due_row(show_record(some_record(seed))))


class Read(unittest.TestCase):
    def test_a_known_one(self):
        self.assertEqual(read_record(TEXT), WHOLE)
        self.assertEqual(read_record(text=TEXT), WHOLE)

    def same_kinds(self, one, other):
        self.assertIs(type(one), type(other))
        if type(one) is tuple:
            self.assertEqual(len(one), len(other))
            for part, of_other in zip(one, other):
                self.same_kinds(part, of_other)

    def test_back_thing_by_thing(self):
        texts = {}
        for seed in range(500):
            record = some_record(seed)
            text = show_record(record)
            self.assertEqual(read_record(text), record)
            self.same_kinds(read_record(text), record)
            self.assertEqual(texts.setdefault(text, record), record)

    def test_back_of_disputes(self):
        papers = 0
        for record in disputes():
            text = show_record(record)
            self.assertEqual(read_record(text), record)
            self.assertEqual(show_record(read_record(text)), text)
            papers += record[-1][3] is not None
        self.assertGreater(papers, 20)

    def test_numbers_of_eighteen_figures(self):
        for number in (10 ** 18 - 1, 1 - 10 ** 18, 10 ** 17, -10 ** 17, 0, -9):
            text = f"claims {number} 5\nrows {number} by 0 : {number},{number} {number}\nout 0 late\npaper 1 to {number}"
            record = read_record(text)
            self.assertEqual(record[0], ("claims", number, 5))
            self.assertEqual(record[1], ("asked", "rows", number, (0,), (((number, number), number),)))
            self.assertEqual(record[2], ("out", (0,), ("late",), (1, (), number)))

    def test_few_rows(self):
        self.assertEqual(read_record("claims 1 1\nout 1 deed"), (("claims", 1, 1), ("out", (1,), ("deed",), None)))


class Refused(unittest.TestCase):
    def refuse(self, text, row):
        with self.assertRaises(NoText) as taken:
            read_record(text)
        self.assertEqual(taken.exception.row, row, text)
        self.assertIsInstance(taken.exception, CourtError)

    def test_nothing(self):
        self.refuse("", 0)
        self.refuse("\n", 0)
        self.refuse(" ", 0)

    def test_out_lacks(self):
        rows = TEXT.split("\n")
        for many in range(1, 6):
            self.refuse("\n".join(rows[:many]), many)
        self.refuse(show_record(WHOLE[:1]), 1)

    def test_cut_behind_out(self):
        rows = TEXT.split("\n")
        for many in range(6, 9):
            self.assertEqual(show_record(read_record("\n".join(rows[:many]))), "\n".join(rows[:many]))

    def test_a_row_taken_out(self):
        rows = TEXT.split("\n")
        for number, due in enumerate((0, None, None, None, None, 5, 6, None, None)):
            text = "\n".join(rows[:number] + rows[number + 1:])
            if due is None:
                self.assertEqual(show_record(read_record(text)), text)
            else:
                self.refuse(text, due)

    def test_a_row_put_elsewhere(self):
        rows = TEXT.split("\n")
        for one in range(len(rows)):
            for other in range(len(rows)):
                moved = rows[:one] + rows[one + 1:]
                moved.insert(other, rows[one])
                text = "\n".join(moved)
                due = due_row(text)
                if due is None:
                    self.assertEqual(show_record(read_record(text)), text)
                else:
                    self.refuse(text, due)

    def test_doubled(self):
        rows = TEXT.split("\n")
        for number in (0, 5, 6):
            self.refuse("\n".join(rows[:number + 1] + rows[number:]), number + 1)

    def test_a_line_feed_behind_the_last_row(self):
        self.refuse(TEXT + "\n", 9)
        self.refuse("claims 1 2\nout 1 deed\n", 2)
        self.refuse("claims 1 2\n", 1)

    def test_rows_behind_the_last(self):
        self.refuse(TEXT + "\nout 0 deed", 9)
        self.refuse(TEXT + "\nrows 5 by 0 : 1 0", 9)
        self.refuse("claims 1 2\nout 1 deed\nleaf 0 0 by", 2)
        self.refuse("claims 1 2\nout 1 deed\nrows 5 by 0 : 1 0", 2)
        self.refuse("claims 1 2\nout 1 deed\nclaims 1 2", 2)
        self.refuse("claims 1 2\nleaf 0 0 by\nout 1 deed", 1)
        self.refuse("claims 1 2\npaper 1 to 2\nout 1 deed", 1)

    def test_claims(self):
        for row in (
            "claims 1", "claims 1 2 3", "claims", "claims  1 2", " claims 1 2", "claims 1 2 ", "claims 1 x", "claim 1 2",
            "Claims 1 2", "claims 1,2", "claims none 2", "claims 01 2", "claims 1 -0", "claims +1 2", "claims - 2",
            "claims 1 --2", "claims 1000000000000000000 2", "claims 1 -1000000000000000000", "claims 1. 2", "claims 1\t2",
            "claims 1_0 2",
        ):
            self.refuse(row + "\nout 0 deed", 0)

    def test_questions(self):
        for row in (
            "calls 1 : 2 0", "calls 1 : 2 0 | 3", "calls 1 : 2 | 3 0", "calls 1 : 2 0 | 3 0 | 4 0", "calls 1 2 0 | 3 0",
            "calls 1 : | 3 0", "calls : 2 0 | 3 0", "calls 1.2 : 2 0 | 3 0", "rows 1.2 : 2 0 | 3 0", "deeds 1 : 2 0 | 3 0",
            "deeds 1. : 2 0 | 3 0", "deeds .1 : 2 0 | 3 0", "deeds 1.2.3 : 2 0 | 3 0", "deeds 1,2 : 2 0 | 3 0",
            "deeds 1 2 : 2 0 | 3 0", "row 1 : 2 0 | 3 0", "call 1 : 2 0 | 3 0", "asked 1 : 2 0 | 3 0", "1 : 2 0 | 3 0",
            "rows 1 by 0 : 2 0 | 3 0", "rows 1 by 2 : 2 0", "rows 1 by 00 : 2 0", "rows 1 by : 2 0", "rows 1 by 0 2 0",
            "rows 1 by 0 1 : 2 0", "rows 1 by -0 : 2 0", "rows 1 0 : 2 0", "rows 1 by 0 : 2", "rows 1 by 0 : 2 0 0",
            "rows by 0 : 2 0", "rows 1 : None 0 | 3 0", "rows 1 : non 0 | 3 0", "rows 1 : nones 0 | 3 0",
            "rows 1 : 1,2,3 0 | 3 0", "rows 1 : 1, 0 | 3 0", "rows 1 : ,1 0 | 3 0", "rows 1 : , 0 | 3 0",
            "rows 1 : none,1 0 | 3 0", "rows 1 : 1.2 0 | 3 0", "rows 1 : 2 none | 3 0", "rows 1 : 2 0,1 | 3 0",
            "rows 1 : 2 00 | 3 0", "rows 1 : 02 0 | 3 0", "rows -01 : 2 0 | 3 0", "rows 1 : 1,02 0 | 3 0",
            "rows 1 : 1,-0 0 | 3 0", "rows 1:2 0 | 3 0", "rows 1: 2 0 | 3 0", "rows 1 :2 0 | 3 0", "rows 1 : 2 0 |3 0",
            "rows 1 : 2 0| 3 0", "rows 1 : 2 0 || 3 0", "rows 1 ; 2 0 | 3 0", "rows 1 : 2 0 : 3 0", "rows 1 | 2 0 : 3 0",
            "rows  1 : 2 0 | 3 0", "rows 1  : 2 0 | 3 0", "rows 1 : 2  0 | 3 0", "rows 1 : 2 0 | 3 0 ", " rows 1 : 2 0 | 3 0",
            "rows 1 : 2 0 | 3 0 4", "rows", "rows 1", "rows 1 :", "", " ", "rows 1 : 2 1000000000000000000 | 3 0",
            "rows 1000000000000000000 : 2 0 | 3 0", "rows 1 : 2 0 | -1000000000000000000,3 0",
        ):
            self.refuse("claims 1 2\n" + row + "\nout 0 deed", 1)

    def test_outs(self):
        for row in (
            "out", "out 0", "out deed", "out 2 deed", "out 0 deed 0 deed", "out 1 deed 0 deed", "out 1 deed 1 deed",
            "out 0 deed 1", "out 0 deed deed", "out 0 1 deed deed", "out 0 deed 1 deed 0 deed", "out 0 Deed", "out 0 dee",
            "out 0 deeds", "out 0 x", "out 00 deed", "out -0 deed", "out 0  deed", "out 0 deed ", " out 0 deed", "out 0,deed",
            "out 0 none", "out 0 deed 1 ", "out 0 out", "out  0 deed", "out 0 deed | 1 deed",
        ):
            self.refuse("claims 1 2\n" + row, 1)

    def test_papers(self):
        for row in (
            "paper", "paper 1 2", "paper 1 to", "paper to 2", "paper 1 to 2 3", "paper 1 to x", "paper 01 to 2",
            "paper 1 to -0", "paper 1  to 2", "paper 1 to 2 ", "paper 1 TO 2", "papers 1 to 2", "paper 1,1 to 2",
            "paper none to 2", "paper 1 to 1000000000000000000", "",
        ):
            self.refuse("claims 1 2\nout 1 deed\n" + row, 2)

    def test_leaves(self):
        for row in (
            "leaf", "leaf 1", "leaf 1 2", "leaf 1 2 3", "leaf 1 by", "leaf by 1 2", "leaf 1 2 by ", "leaf 1 2 by  3",
            "leaf 1 2 by 3 ", "leaf 1 2 by 3  4", "leaf 1 2 by 03", "leaf 01 2 by 3", "leaf 1 02 by 3", "leaf 1 2 3 by 4",
            "leaf 1 2 by x", "leaf 1 none by 3", "leaf 1 2 by none", "leaf 1 2 by 3,4", "leaf 1 2 by -0", "leaves 1 2 by 3",
            "leaf 1 2 by 1000000000000000000", "leaf 1000000000000000000 2 by 3", "leaf 1 2 By 3", "paper 1 to 2", "",
        ):
            self.refuse("claims 1 2\nout 1 deed\npaper 1 to 2\n" + row, 3)
            self.refuse("claims 1 2\nout 1 deed\npaper 1 to 2\nleaf 0 0 by\n" + row + "\nleaf 0 0 by", 4)

    def test_signs_put_in_left_out_exchanged(self):
        counts = {"read": 0, "refused": 0}
        for seed in range(300):
            chance = random.Random(seed)
            text = show_record(some_record(seed)) if seed % 3 else TEXT
            for turn in range(30):
                place = chance.randrange(len(text))
                sign = chance.choice(("", " ", "\n", "-", "0", "1", "9", ",", ".", ":", "|", "none", "by", "a", "~", "+"))
                other = text[:place] + sign + text[place + chance.randint(0, 2):]
                if turn % 5 == 0:
                    end = chance.randrange(place, len(text))
                    other = text[:place] + text[end:]
                due = due_row(other)
                counts["read" if due is None else "refused"] += 1
                if due is None:
                    self.assertEqual(show_record(read_record(other)), other)
                else:
                    self.refuse(other, due)
        self.assertGreater(min(counts.values()), 500, counts)

    def test_rows_joined_and_broken(self):
        rows = TEXT.split("\n")
        for number in range(len(rows) - 1):
            for sign in ("", " "):
                text = "\n".join(rows[:number] + [rows[number] + sign + rows[number + 1]] + rows[number + 2:])
                self.refuse(text, number)
        for place in range(len(TEXT)):
            text = TEXT[:place] + "\n" + TEXT[place:]
            due = due_row(text)
            self.assertIsNotNone(due)
            self.refuse(text, due)

    def test_long_ones(self):
        self.refuse("claims 1 " + "9" * 10000 + "\nout 0 deed", 0)
        self.refuse("claims 1 2\n" + "rows 1 by 0 : 1 0\n" * 1000, 1001)
        siblings = " 123456789" * 1900
        text = "claims 1 2\nout 0 deed\npaper 1 to 2\nleaf 0 0 by" + siblings
        self.assertEqual(show_record(read_record(text)), text)


if __name__ == "__main__":
    unittest.main()
