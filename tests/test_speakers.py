"""Speakers: what they say by their rules, and by how much they are late."""

import pathlib
import random
import sys
import unittest

sys.path.insert(0, str(pathlib.Path(__file__).resolve().parent))

from courting import CASES, DEEP, NEVER, TWICE, some_rules
from stepcourt.house import House
from stepcourt.places import Places
from stepcourt.speakers import Speaker

CASE = (TWICE, (), 60, 5)
ASKED = (
    ("calls", 0), ("calls", 1), ("calls", 3), ("calls", 5), ("rows", 0), ("rows", 17), ("rows", 60),
    ("deeds", (0, 0)), ("deeds", (9, 4)), ("deeds", (59, 8)),
)


# One for all, so that what two of them say may be held against one another.
HOUSE = House()


def speaker(rules, case=CASE):
    places = Places(HOUSE, case)
    return places, Speaker(places, rules)


def said_all(rules, asked=ASKED):
    """What one with these rules says, asked for one place behind the other."""
    places, one = speaker(rules)
    return [one.asked(floor, place) for floor, place in asked]


def truth(asked=ASKED):
    places = Places(HOUSE, CASE)
    return [(places.at(floor, place), 0) for floor, place in asked]


class Plain:
    """A speaker told anew: it keeps all that it said."""

    def __init__(self, places, rules):
        self.places, self.rules, self.said = places, rules, []

    def asked(self, floor, place):
        first = place[0] if floor == "deeds" else place
        for tests, says, late in self.rules:
            held = [
                (test[0] == "floor" and test[1] == floor)
                or (test[0] == "from" and first in range(test[1], test[2] + 1))
                or (test[0] == "asked" and (len(self.said) - test[2]) % test[1] == 0)
                for test in tests
            ]
            if False not in held:
                break
        else:
            says, late = ("true", 0), 0
        told = self.told(says, floor, place)
        self.said.append((floor, told))
        return (told, late)

    def told(self, says, floor, place):
        n, m = self.places.case[2:]
        kind = says[0]
        if kind == "again":
            before = [told for where, told in self.said if where == floor]
            if before:
                return before[-1]
            says, kind = ("true", 0), "true"
        if kind == "true":
            most = {"calls": m, "rows": n, "deeds": 8}[floor]
            last = sorted([0, most, (place[1] if floor == "deeds" else place) + says[1]])[1]
            return self.places.at(floor, (place[0], last) if floor == "deeds" else last)
        true = self.places.at(floor, place)
        return {
            "silent": None, "pair": says[1:], "number": (true[0], says[-1]) if floor == "calls" else says[-1],
        }[kind]


class Truth(unittest.TestCase):
    def test_without_rules(self):
        self.assertEqual(said_all(()), truth())

    def test_where_no_rule_holds(self):
        rules = (((("floor", "rows"), ("floor", "calls")), ("silent",), 9), ((("from", 61, 99),), ("number", 4), 3))
        self.assertEqual(said_all(rules), truth())

    def test_true_with_nothing_added(self):
        self.assertEqual(said_all((((), ("true", 0), 0),)), truth())

    def test_kinds_and_names(self):
        places = Places(House(), CASE)
        one = Speaker(places=places, rules=())
        told = one.asked(floor="calls", place=2)
        self.assertIs(type(told), tuple)
        self.assertEqual(told, (places.at("calls", 2), 0))

    def test_late_with_the_truth(self):
        self.assertEqual(said_all((((), ("true", 0), 7),)), [(said, 7) for said, late in truth()])


class FirstRule(unittest.TestCase):
    def test_the_first_whose_tests_hold(self):
        rules = (
            ((("floor", "rows"), ("from", 10, 20)), ("number", -1), 1),
            ((("floor", "rows"),), ("number", -2), 2),
            ((("floor", "deeds"),), ("number", -3), 3),
            ((), ("number", -4), 4),
        )
        asked = (("rows", 15), ("rows", 9), ("deeds", (15, 0)), ("rows", 20))
        self.assertEqual(said_all(rules, asked), [(-1, 1), (-2, 2), (-3, 3), (-1, 1)])

    def test_a_rule_without_tests_holds_ever(self):
        self.assertEqual(said_all((((), ("silent",), 0), ((), ("number", -5), 1))), [(None, 0)] * len(ASKED))

    def test_floor(self):
        for floor in ("calls", "rows", "deeds"):
            told = said_all((((("floor", floor),), ("silent",), 5),))
            due = [(None, 5) if where == floor else true for (where, place), true in zip(ASKED, truth())]
            self.assertEqual(told, due)

    def test_both_ends_of_from(self):
        rules = (((("from", 5, 8),), ("silent",), 1),)
        places, one = speaker(rules, (TWICE, (), 60, 20))
        for floor, place_of in (("calls", int), ("rows", int), ("deeds", lambda row: (row, 2))):
            for number in range(20):
                due = (None, 1) if 5 <= number <= 8 else (places.at(floor, place_of(number)), 0)
                self.assertEqual(one.asked(floor, place_of(number)), due)

    def test_from_looks_at_the_first_number_of_a_deed(self):
        rules = (((("from", 3, 3),), ("silent",), 0),)
        told = said_all(rules, (("deeds", (3, 0)), ("deeds", (3, 8)), ("deeds", (0, 3)), ("deeds", (4, 3))))
        self.assertEqual([said is None for said, late in told], [True, True, False, False])

    def test_from_one_to_itself_and_to_less(self):
        told = said_all((((("from", 4, 4),), ("silent",), 0),), [("rows", row) for row in range(3, 6)])
        self.assertEqual([said is None for said, late in told], [False, True, False])
        told = said_all((((("from", 5, 4),), ("silent",), 0),), [("rows", row) for row in range(3, 7)])
        self.assertEqual([said is None for said, late in told], [False] * 4)

    def test_asked(self):
        for q, r in ((1, 0), (2, 0), (2, 1), (3, 2), (4, 0)):
            told = said_all((((("asked", q, r),), ("silent",), 0),))
            self.assertEqual([said is None for said, late in told], [k % q == r for k in range(len(ASKED))])

    def test_a_rest_that_there_never_is(self):
        self.assertEqual(said_all((((("asked", 2, 2),), ("silent",), 0),)), truth())

    def test_askings_on_all_floors_are_counted_by_each_alone(self):
        places = Places(House(), CASE)
        rules = (((("asked", 5, 0),), ("silent",), 0),)
        one, other = Speaker(places, rules), Speaker(places, rules)
        self.assertEqual(one.asked("rows", 3)[0], None)
        for floor, place in (("calls", 1), ("deeds", (2, 2)), ("rows", 3), ("calls", 0)):
            self.assertNotEqual(one.asked(floor, place)[0], None)
        self.assertEqual(other.asked("calls", 3)[0], None)
        self.assertEqual(one.asked("calls", 0)[0], None)


class Added(unittest.TestCase):
    def test_each_floor(self):
        places, one = speaker((((), ("true", 2), 0),))
        self.assertEqual(one.asked("calls", 1)[0], places.at("calls", 3))
        self.assertEqual(one.asked("rows", 10)[0], places.at("rows", 12))
        self.assertEqual(one.asked("deeds", (10, 3))[0], places.at("deeds", (10, 5)))

    def test_taken_off(self):
        places, one = speaker((((), ("true", -3), 0),))
        self.assertEqual(one.asked("calls", 4)[0], places.at("calls", 1))
        self.assertEqual(one.asked("rows", 10)[0], places.at("rows", 7))
        self.assertEqual(one.asked("deeds", (10, 3))[0], places.at("deeds", (10, 0)))

    def test_below_and_beyond(self):
        for s, calls, rows, deed in ((-100, 0, 0, 0), (-10 ** 17, 0, 0, 0), (100, 5, 60, 8), (10 ** 17, 5, 60, 8)):
            places, one = speaker((((), ("true", s), 0),))
            self.assertEqual(one.asked("calls", 3)[0], places.at("calls", calls))
            self.assertEqual(one.asked("rows", 30)[0], places.at("rows", rows))
            self.assertEqual(one.asked("deeds", (30, 4))[0], places.at("deeds", (30, deed)))

    def test_beyond_call_m_where_more_calls_are_done(self):
        places, one = speaker((((), ("true", 1), 0),), (TWICE, (7,), 60, 2))
        self.assertEqual(one.asked("calls", 1)[0], (60, places.at("rows", 60)))
        self.assertEqual(one.asked("calls", 2)[0], (60, places.at("rows", 60)))

    def test_just_to_the_ends_and_one_more(self):
        for s in (-5, -4, -3, 3, 4, 5):
            places, one = speaker((((), ("true", s), 0),))
            self.assertEqual(one.asked("deeds", (7, 4))[0], places.at("deeds", (7, min(8, max(0, 4 + s)))))
            self.assertEqual(one.asked("rows", 56)[0], places.at("rows", min(60, 56 + s)))
            self.assertEqual(one.asked("rows", 4)[0], places.at("rows", max(0, 4 + s)))
            self.assertEqual(one.asked("calls", 1)[0], places.at("calls", min(5, max(0, 1 + s))))

    def test_deed_nought_and_deed_eight(self):
        places, one = speaker((((), ("true", 1), 0),))
        self.assertEqual(one.asked("deeds", (7, 8))[0], places.at("rows", 8))
        self.assertEqual(one.asked("deeds", (7, 7))[0], places.at("rows", 8))
        places, one = speaker((((), ("true", -1), 0),))
        self.assertEqual(one.asked("deeds", (7, 0))[0], places.at("rows", 7))
        self.assertEqual(one.asked("deeds", (7, 1))[0], places.at("rows", 7))


class Says(unittest.TestCase):
    def test_number(self):
        for number in NEVER + (1, 3):
            places, one = speaker((((), ("number", number), 2),))
            self.assertEqual(one.asked("rows", 4), (number, 2))
            self.assertEqual(one.asked("deeds", (4, 1)), (number, 2))
            for k, rows in enumerate((0, 3, 16, 29, 60, 60)):
                self.assertEqual(one.asked("calls", k), ((rows, number), 2))

    def test_pair_on_any_floor(self):
        self.assertEqual(said_all((((), ("pair", -3, 10 ** 17), 0),)), [((-3, 10 ** 17), 0)] * len(ASKED))

    def test_silent(self):
        self.assertEqual(said_all((((), ("silent",), 6),)), [(None, 6)] * len(ASKED))

    def test_again_at_the_first_asking(self):
        places, one = speaker((((), ("again",), 3),))
        for floor, place, later in (("calls", 2, 4), ("rows", 8, 9), ("deeds", (3, 3), (4, 4))):
            self.assertEqual(one.asked(floor, place), (places.at(floor, place), 3))
            self.assertEqual(one.asked(floor, later), (places.at(floor, place), 3))

    def test_again_what_another_rule_or_none_said(self):
        rules = (((("asked", 3, 0),), ("number", -8), 0), ((("asked", 3, 2),), ("again",), 1))
        places, one = speaker(rules)
        self.assertEqual(one.asked("rows", 1), (-8, 0))
        self.assertEqual(one.asked("rows", 2), (places.at("rows", 2), 0))
        self.assertEqual(one.asked("rows", 3), (places.at("rows", 2), 1))
        self.assertEqual(one.asked("calls", 2), ((16, -8), 0))
        self.assertEqual(one.asked("rows", 4), (places.at("rows", 4), 0))
        self.assertEqual(one.asked("calls", 3), ((16, -8), 1))

    def test_again_behind_none(self):
        rules = (((("asked", 9, 0),), ("silent",), 0), ((), ("again",), 0))
        places, one = speaker(rules)
        self.assertEqual(one.asked("rows", 1), (None, 0))
        self.assertEqual(one.asked("rows", 2), (None, 0))
        self.assertEqual(one.asked("calls", 1), (places.at("calls", 1), 0))
        self.assertEqual(one.asked("rows", 3), (None, 0))

    def test_again_behind_a_pair_and_again(self):
        rules = (((("asked", 9, 0),), ("pair", 4, 5), 0), ((), ("again",), 0))
        places, one = speaker(rules)
        self.assertEqual([one.asked("deeds", (k, k))[0] for k in range(4)], [(4, 5)] * 4)

    def test_a_stuck_run(self):
        places, one = speaker((((), ("number", -1), 0),), (DEEP, (), 100, 20))
        self.assertEqual(one.asked("calls", 7), ((100, -1), 0))
        self.assertEqual(one.asked("calls", 6), ((26, -1), 0))


class Many(unittest.TestCase):
    def test_against_one_told_anew(self):
        for seed in range(300):
            chance = random.Random(seed)
            case = chance.choice(CASES)
            places = Places(House(), case)
            rules = some_rules(chance, places)
            one, other = Speaker(places, rules), Plain(places, rules)
            for turn in range(12):
                floor = chance.choice(("calls", "rows", "deeds"))
                place = {
                    "calls": chance.randint(0, case[3]), "rows": chance.randint(0, case[2]),
                    "deeds": (chance.randrange(case[2]), chance.randint(0, 8)),
                }[floor]
                self.assertEqual(one.asked(floor, place), other.asked(floor, place))

    def test_rules_and_places_stay_as_they_are(self):
        rules = [((("floor", "rows"),), ("again",), 1)]
        places, one = speaker(rules)
        one.asked("rows", 3)
        self.assertEqual(rules, [((("floor", "rows"),), ("again",), 1)])
        rules.clear()
        self.assertEqual(one.asked("rows", 5), (places.at("rows", 3), 1))
        self.assertEqual(Speaker(places, ()).asked("rows", 5), (places.at("rows", 5), 0))


if __name__ == "__main__":
    unittest.main()
