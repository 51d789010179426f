"""The interface: everything is there under its name, with its arguments; and what holds over the whole program."""

import importlib
import inspect
import pathlib
import random
import sys
import unittest

sys.path.insert(0, str(pathlib.Path(__file__).resolve().parent))

from courting import CASES, Astray, made_case, some_rules, true_places
from making import Maker
from stepcourt.court import held
from stepcourt.deeds import deed_done, deed_writes, needed
from stepcourt.dispute import Dispute, argued
from stepcourt.errors import CourtError, NoProgram, NoRecord, NoText, TooLong
from stepcourt.house import House
from stepcourt.layout import begin, depth_of
from stepcourt.looker import look
from stepcourt.machine import row_done
from stepcourt.maker import boxes, call_rows, code_of, def_rows
from stepcourt.papers import paper_holds, paper_of
from stepcourt.partial import comes_to_with
from stepcourt.plain import plain_run
from stepcourt.plainly import plainly
from stepcourt.reader import read
from stepcourt.records import record_holds
from stepcourt.recordtexts import read_record, show_record
from stepcourt.speakers import Speaker
from stepcourt.web import settled, web_plainly
from stepcourt.writer import show

FUNCTIONS = {
    "words": {"is_name": "text", "value": "sign a b"},
    "forms": {"parts": "term", "calls_in": "program"},
    "reader": {"read_term": "text", "read": "text"},
    "writer": {"show_term": "term", "show": "program"},
    "looker": {"look": "program"},
    "plain": {"plain_run": "program numbers most"},
    "maker": {"boxes": "program", "code_of": "program", "def_rows": "program", "call_rows": "program"},
    "layout": {"room_at": "program", "waits_at": "program", "depth_of": "program", "begin": "program numbers"},
    "machine": {"row_done": "program stand"},
    "deeds": {"needed": "program known", "deed_writes": "program known", "deed_done": "program stand"},
    "trees": {
        "seal_of": "house words", "word_in": "house seal depth k", "path_in": "house seal depth k",
        "put_in": "house seal depth k word",
    },
    "partial": {"comes_to": "house depth paths", "comes_to_with": "house depth paths written"},
    "written": {
        "written": "program state k", "written_end": "program end k", "answer_in": "house case seal",
    },
    "papers": {"paper_of": "house case seal", "paper_holds": "house case paper"},
    "dispute": {"halves": "x", "most_questions": "case", "argued": "dispute one other"},
    "records": {"record_holds": "house case clock record"},
    "recordtexts": {"show_record": "record", "read_record": "text"},
    "court": {"held": "house case clock claimants"},
    "plainly": {"plainly": "house case claimants"},
    "web": {"settled": "house web claimants clock order", "web_plainly": "web"},
}
CLASSES = {
    "errors": {
        "NoText": {"__init__": "self row"}, "NoProgram": {"__init__": "self word name"},
        "TooLong": {"__init__": "self most"}, "NoRecord": {"__init__": "self row"},
    },
    "house": {"House": {"__init__": "self", "leaf": "self word", "pair": "self one other", "opened": "self seal",
                        "many": "self"}},
    "places": {"Places": {"__init__": "self house case", "at": "self floor place"}},
    "speakers": {"Speaker": {"__init__": "self places rules", "asked": "self floor place"}},
    "dispute": {"Dispute": {
        "__init__": "self house case clock claims", "question": "self", "say": "self answers", "out": "self",
        "opened": "self", "record": "self",
    }},
}


def module(name):
    return importlib.import_module("stepcourt." + name)


def arguments(function):
    return " ".join(inspect.signature(function).parameters)


class Names(unittest.TestCase):
    def test_functions(self):
        for name, functions in FUNCTIONS.items():
            for function, due in functions.items():
                self.assertEqual(arguments(getattr(module(name), function)), due, (name, function))

    def test_classes(self):
        for name, classes in CLASSES.items():
            for made, methods in classes.items():
                for method, due in methods.items():
                    self.assertEqual(arguments(getattr(getattr(module(name), made), method)), due, (made, method))

    def test_numbers(self):
        words = module("words")
        self.assertEqual((words.WIDE, words.GREAT, words.ROOM, words.WAITS, words.DEEDS), (2 ** 32, 10 ** 12, 8, 6, 8))

    def test_refusals(self):
        self.assertEqual(CourtError.__bases__, (ValueError,))
        for made in (NoText, NoProgram, TooLong, NoRecord):
            self.assertEqual(made.__bases__, (CourtError,))
        self.assertEqual((NoProgram("twice", "a").word, NoProgram("twice", "a").name), ("twice", "a"))
        self.assertEqual((NoText(3).row, NoRecord(4).row, TooLong(5).most), (3, 4, 5))


class Own(unittest.TestCase):
    """Lists and dicts that are told are new ones, and those that are handed in stay as they are."""

    def test_told(self):
        program = read("cell a 2\nrow r 3\ndef f\nset a (- a 1)\nend\nmain\nwhile a\ncall f\nend\nend")
        for tell in (
            lambda: boxes(program), lambda: def_rows(program), lambda: plain_run(program, (), 99)[0],
            lambda: deed_writes(program, {0: 0, 1: 0, 2: 0, 6: 2, 10: 0}),
            lambda: held(House(), (program, (), 9, 2), 0, (((), 1, 0), ((((), ("number", -1), 0),), 1, 0)))[4],
        ):
            told = tell()
            self.assertTrue(told)
            told.clear()
            again = tell()
            self.assertTrue(again)
            self.assertEqual(tell(), again)

    def test_handed_in(self):
        program = read("cell a 2\nmain\nset a 1\nend")
        known = {0: 0, 1: 0, 2: 0, 7: 0}
        needed(program, known)
        deed_writes(program, known)
        self.assertEqual(known, {0: 0, 1: 0, 2: 0, 7: 0})
        house = House()
        case = (program, (), 3, 1)
        before, paths, after = paper_of(house, case, true_places(house, case)[0].at("rows", 0))
        written = {1: 1, 7: 1}
        self.assertEqual(comes_to_with(house, depth_of(program), paths, written), after)
        self.assertEqual(written, {1: 1, 7: 1})
        answers = [(5, 0), (6, 0)]
        dispute = Dispute(house, case, 0, [1, 2])
        dispute.say(answers)
        self.assertEqual(answers, [(5, 0), (6, 0)])

    def test_said_is_kept_whatever_is_done_later(self):
        house = House()
        case = CASES[0]
        claims = [-1, -2]
        dispute = Dispute(house, case, 0, claims)
        answers = [((4, 5), 0), ((4, 6), 0)]
        dispute.say(answers)
        claims[0], answers[0] = 9, None
        answers.append(None)
        self.assertEqual(dispute.record(), (
            ("claims", -1, -2), ("asked", "calls", 2, (0, 1), (((4, 5), 0), ((4, 6), 0)))))


class Whole(unittest.TestCase):
    """From a program's text to a court, and back from a record's text."""

    def test_from_text_to_record_and_back(self):
        for seed in range(60):
            chance = random.Random(seed)
            case = chance.choice(CASES) if seed % 2 else made_case(seed)
            case = (read(show(case[0])),) + case[1:]
            self.assertIs(look(case[0]), True)
            house = House()
            places, true = true_places(house, case)
            liar = Astray(places, chance)
            if liar.claim() == true:
                continue
            dispute = Dispute(house, case, 0, (liar.claim(), true))
            who, words, paper = argued(dispute, liar, Speaker(places, ()))
            self.assertEqual(who, (0,))
            record = read_record(show_record(dispute.record()))
            self.assertIs(record_holds(house, case, 0, record), True)
            if paper is not None:
                self.assertTrue(paper_holds(house, case, record[-1][3]))

    def test_another_house_of_the_same_numbers(self):
        # Which numbers a house gives is free, but a record goes with the house whose seals it has.
        house, case = House(), CASES[0]
        places, true = true_places(house, case)
        dispute = Dispute(house, case, 0, (true, -1))
        argued(dispute, Speaker(places, ()), Speaker(places, (((), ("number", -1), 0),)))
        self.assertIsNotNone(dispute.out()[2])
        other = House()
        other.leaf(99)
        with self.assertRaises(NoRecord):
            record_holds(other, case, 0, dispute.record())

    def test_in_any_order_with_one_house(self):
        # What was asked in between, of the same house, changes nothing.
        for seed in range(25):
            chance = random.Random(seed)
            house, case = House(), chance.choice(CASES)
            places, true = true_places(house, case)
            claimants = tuple([(some_rules(chance, places), turn, turn // 2) for turn in range(4)] + [((), 9, 1)])
            web = ((case[0], case[1], case[2], case[3]),)
            own = (tuple([((), rules) for rules, pledge, comes in claimants]),)
            asked = [
                lambda: held(house, case, 5, claimants), lambda: plainly(house, case, claimants),
                lambda: settled(house, web, own, 5, [0]), lambda: web_plainly(web),
                lambda: paper_of(house, case, true), lambda: code_of(case[0]), lambda: call_rows(case[0]),
                lambda: row_done(case[0], begin(case[0], case[1])), lambda: deed_done(case[0], begin(case[0], case[1])),
            ]
            told = [ask() for ask in asked]
            for turn in range(3):
                for number in chance.sample(range(len(asked)), len(asked)):
                    self.assertEqual(asked[number](), told[number])

    def test_great_ones(self):
        # As many cells, rows, words, claimants, rules and rows of the run as the bounds let be.
        rows = tuple([(name, 8) for name in ("r", "s", "t")])
        cells = tuple([(name, 2 ** 32 - 1) for name in "abcdef"])
        term = ("op", "+", ("at", "r", ("cell", "a")), ("op", "*", ("at", "s", ("cell", "b")), ("cell", "c")))
        body = (("put", "t", ("cell", "a"), term), ("set", "a", ("op", "-", ("cell", "a"), ("num", 1))), ("call", "f"))
        program = (cells, rows, (("f", (("put", "r", ("cell", "a"), ("cell", "b")),)),), (("while", ("num", 1), body),))
        self.assertIs(look(program), True)
        case = (program, (3, 4, 5), 400, 20)
        self.assertEqual(depth_of(program), 6)
        house = House()
        places, true = true_places(house, case)
        chance = random.Random(1)
        claimants = tuple([(some_rules(chance, places), 1000000, turn) for turn in range(7)] + [((), 1000000, 7)])
        claim, who, purses, purse, puttings = held(house, case, 1000000, claimants)
        self.assertEqual(claim, true)
        self.assertIn(7, who)
        self.assertEqual(sum(purses) + purse, 8000000)
        web = (case,) * 4 + ((program, (1, 2), 400, 20),)
        own = tuple([tuple([((), rules) for rules, pledge, comes in claimants[4:]]) for run in web])
        self.assertEqual(settled(house, web, own, 0, (4, 2, 0, 1, 3)), web_plainly(web))


class Bounds(unittest.TestCase):
    def test_programs_of_every_sort_have_disputes(self):
        for seed in range(80):
            program = Maker(seed).program()
            for n, m in ((1, 1), (400, 20)):
                case = (program, (), n, m)
                house = House()
                places, true = true_places(house, case)
                dispute = Dispute(house, case, 0, (true, 10 ** 18 - 1))
                out = argued(dispute, Speaker(places, ()), Speaker(places, (((("floor", "rows"),), ("true", 1), 0),)))
                self.assertEqual(out[0], (1,))


if __name__ == "__main__":
    unittest.main()
