"""Records: let by just where they are those of disputes."""

import pathlib
import random
import sys
import unittest

sys.path.insert(0, str(pathlib.Path(__file__).resolve().parent))

from courting import CASES, PLAIN, TWICE, Astray, Referee, made_case, some_rules, some_seals, true_places
from stepcourt.dispute import Dispute, argued
from stepcourt.errors import CourtError, NoRecord
from stepcourt.house import House
from stepcourt.places import Places
from stepcourt.records import record_holds
from stepcourt.speakers import Speaker

CASE = (TWICE, (), 60, 5)
FLOORS = ("calls", "rows", "deeds")
WORDS = ("silent", "form", "late", "twice", "count", "closed", "deed")


def some_record(seed):
    """A dispute made up from a seed: its house, case, clock and record."""
    chance = random.Random(seed)
    house = House()
    case = made_case(seed) if seed % 3 == 0 else chance.choice(CASES)
    places, true = true_places(house, case)
    rules = [some_rules(chance, places), some_rules(chance, places)]
    if seed % 2:
        rules[seed % 4 // 2] = ()
    speakers = [Speaker(places, rule) for rule in rules]
    seals = some_seals(chance, places)
    claims = (true, chance.choice([seal for seal in seals if seal != true]))
    if seed % 5 < 3:
        astray = Astray(places, chance)
        if astray.claim() != true:
            speakers, claims = [Speaker(places, ()), astray], (true, astray.claim())
    if seed % 7 < 3:
        claims, speakers = claims[::-1], speakers[::-1]
    clock = chance.choice((0, 3, 1000))
    dispute = Dispute(house, case, clock, claims)
    argued(dispute, *speakers)
    return house, case, clock, dispute.record()


class Unlike(Exception):
    """A record's row, by its number, that isn't the question that a referee asks, with answers."""


def due_row(house, case, clock, record):
    """The row at which a record is to be refused, or None, by a referee who is answered from it."""
    if not record or record[0][0] != "claims" or record[0][1] == record[0][2]:
        return 0
    taken = [record[0]]

    def answers(floor, place, who):
        row = record[len(taken)] if len(taken) < len(record) else ()
        if row[:4] != ("asked", floor, place, who) or len(row[4]) != len(who) or min(row[4], key=lateness)[1] < 0:
            raise Unlike(len(taken))
        taken.append(row)
        return row[4]

    try:
        referee = Referee(house, case, clock, record[0][1:], answers)
    except Unlike as unlike:
        return unlike.args[0]
    if record[len(taken):len(taken) + 1] != (("out",) + referee.out,):
        return len(taken)
    return len(taken) + 1 if len(record) > len(taken) + 1 else None


def lateness(answer):
    return answer[1]


class LetBy(unittest.TestCase):
    def test_of_all_sorts(self):
        words = {}
        for seed in range(250):
            house, case, clock, record = some_record(seed)
            self.assertIs(record_holds(house, case, clock, record), True)
            self.assertIs(record_holds(house, case, clock, record), True)
            for word in record[-1][2]:
                words[word] = words.get(word, 0) + 1
        self.assertGreaterEqual(len(words), 6, words)

    def test_by_names(self):
        house, case, clock, record = some_record(4)
        self.assertIs(record_holds(house=house, case=case, clock=clock, record=record), True)

    def test_late_beyond_all_bounds(self):
        house = House()
        dispute = Dispute(house, CASE, 5, (-1, -2))
        dispute.say([((3, 4), 10 ** 17), ((3, 4), 5)])
        self.assertIs(record_holds(house, CASE, 5, dispute.record()), True)

    def test_numbers_that_no_house_gave(self):
        for one, other in ((10 ** 17, -10 ** 17), (0, 10 ** 12)):
            house = House()
            record = (
                ("claims", one, other), ("asked", "deeds", (0, 4), (0, 1), ((one, 0), (one, 0))),
                ("asked", "deeds", (0, 6), (0, 1), ((one, 0), (one, 0))),
                ("asked", "deeds", (0, 7), (0, 1), ((one, 0), (one, 0))), ("out", (0, 1), ("closed", "closed"), None),
            )
            self.assertIs(record_holds(house, (PLAIN, (), 1, 1), 0, record), True)


class Refused(unittest.TestCase):
    def refuse(self, house, case, clock, record, row):
        many = [thing for thing in record]
        with self.assertRaises(NoRecord) as taken:
            record_holds(house, case, clock, record)
        self.assertEqual(taken.exception.row, row)
        self.assertIsInstance(taken.exception, CourtError)
        self.assertEqual(list(record), many)

    def known(self):
        """A record of four questions, the third of one alone, over by a word of the fourth."""
        house = House()
        places = Places(house, CASE)
        dispute = Dispute(house, CASE, 5, (places.at("rows", 60), -1))
        dispute.say([(places.at("calls", 2), 0), ((10, -5), 1)])
        dispute.say([(places.at("calls", 1), 2), (places.at("calls", 1), 0)])
        dispute.say([(places.at("rows", 10), 3)])
        dispute.say([(places.at("rows", 6), 0), (None, 4)])
        record = dispute.record()
        self.assertEqual(record[3][1:4], ("rows", 10, (0,)))
        self.assertEqual(record[5], ("out", (1,), ("silent",), None))
        self.assertIs(record_holds(house, CASE, 5, record), True)
        return house, record

    def with_row(self, record, number, *rows):
        return record[:number] + rows + record[number + 1:]

    def test_empty_and_cut(self):
        house, record = self.known()
        for many in range(len(record)):
            self.refuse(house, CASE, 5, record[:many], many)

    def test_a_row_taken_out(self):
        house, record = self.known()
        # Without the first question the second one stands in its place, and so on.
        for number in range(len(record)):
            self.refuse(house, CASE, 5, self.with_row(record, number), number)

    def test_a_row_doubled(self):
        house, record = self.known()
        for number in range(len(record)):
            self.refuse(house, CASE, 5, self.with_row(record, number, record[number], record[number]), number + 1)

    def test_rows_exchanged(self):
        house, record = self.known()
        for one in range(len(record)):
            for other in range(one + 1, len(record)):
                rows = list(record)
                rows[one], rows[other] = rows[other], rows[one]
                self.refuse(house, CASE, 5, tuple(rows), one)

    def test_rows_behind_out(self):
        house, record = self.known()
        for row in (record[-1], record[0], record[2], ("out", (), (), None)):
            self.refuse(house, CASE, 5, record + (row,), 6)
            self.refuse(house, CASE, 5, record + (row, row), 6)

    def test_rows_put_in(self):
        house, record = self.known()
        more = ("asked", "calls", 4, (0, 1), ((5, 0), (6, 0)))
        for number in range(len(record) + 1):
            self.refuse(house, CASE, 5, record[:number] + (more,) + record[number:], number)

    def test_claims(self):
        house, record = self.known()
        for row in (("claims", -1, -1), ("claims", record[0][1], record[0][1]), record[-1], record[1]):
            self.refuse(house, CASE, 5, self.with_row(record, 0, row), 0)
            self.refuse(house, CASE, 5, (row,), 0)

    def test_claims_that_the_answers_dont_hang_on(self):
        # Other claims that are unlike have the same dispute, where it doesn't come to them.
        house, record = self.known()
        self.assertIs(record_holds(house, CASE, 5, self.with_row(record, 0, ("claims", -7, 10 ** 17))), True)

    def test_a_question_told_otherwise(self):
        house, record = self.known()
        for number in (1, 2, 3, 4):
            word, floor, place, who, said = record[number]
            for other in (
                (word, "deeds", place, who, said), (word, "calls" if floor == "rows" else "rows", place, who, said),
                (word, floor, place + 1, who, said), (word, floor, -place, who, said),
                (word, floor, (place, 0), who, said), (word, floor, place, (1, 0), said),
                (word, floor, place, (1,), said), (word, floor, place, (), said),
                (word, floor, place, (0,) if len(who) == 2 else (0, 1), said), (word, floor, place, who, said[1:]),
                (word, floor, place, who, said + said[:1]), (word, floor, place, who, ()),
            ):
                self.refuse(house, CASE, 5, self.with_row(record, number, other), number)

    def test_late_below_nought(self):
        house, record = self.known()
        for number in (1, 2, 3, 4):
            word, floor, place, who, said = record[number]
            for one in range(len(who)):
                for late in (-1, -10 ** 17):
                    answers = said[:one] + ((said[one][0], late),) + said[one + 1:]
                    row = (word, floor, place, who, answers)
                    self.refuse(house, CASE, 5, self.with_row(record, number, row), number)

    def test_another_answer_shows_in_the_next_row(self):
        house, record = self.known()
        word, floor, place, who, said = record[1]
        alike = (word, floor, place, who, (said[0], said[0]))
        self.refuse(house, CASE, 5, self.with_row(record, 1, alike), 2)
        silent = (word, floor, place, who, (said[0], (None, 0)))
        self.refuse(house, CASE, 5, self.with_row(record, 1, silent), 2)
        late = (word, floor, place, who, (said[0], (said[1][0], 6)))
        self.refuse(house, CASE, 5, self.with_row(record, 1, late), 2)
        # Late by as much as the clock just lets him be.
        word, floor, place, who, said = record[3]
        just = self.with_row(record, 3, (word, floor, place, who, ((said[0][0], 3),)))
        self.assertIs(record_holds(house, CASE, 5, just), True)
        more = self.with_row(record, 3, (word, floor, place, who, ((said[0][0], 4),)))
        self.refuse(house, CASE, 5, more, 4)

    def test_out_told_otherwise(self):
        house, record = self.known()
        for row in (
            ("out", (0,), ("silent",), None), ("out", (0, 1), ("silent", "silent"), None), ("out", (), (), None),
            ("out", (1,), ("form",), None), ("out", (1,), ("late",), None), ("out", (1,), (), None),
            ("out", (1,), ("silent", "silent"), None), ("out", (1,), ("silent",), (1, (), 2)),
        ):
            self.refuse(house, CASE, 5, self.with_row(record, 5, row), 5)

    def test_another_clock(self):
        house, record = self.known()
        self.assertIs(record_holds(house, CASE, 1000000, record), True)
        self.refuse(house, CASE, 4, record, 4)
        self.refuse(house, CASE, 1, record, 3)
        self.refuse(house, CASE, 0, record, 2)

    def test_another_case(self):
        house, record = self.known()
        self.refuse(house, (TWICE, (), 60, 6), 5, record, 1)
        self.refuse(house, (TWICE, (), 60, 1), 5, record, 1)
        self.refuse(house, (TWICE, (), 9, 5), 5, record, 2)

    def test_papers(self):
        papers = 0
        for seed in range(200):
            house, case, clock, record = some_record(seed)
            word, who, words, paper = record[-1]
            if paper is None:
                continue
            papers += 1
            before, paths, after = paper
            k, opened, siblings = paths[-1]
            for other in (
                None, (before + 1, paths, after), (before, paths, after + 1), (before, paths[1:], after),
                (before, paths[:-1], after), (before, paths[::-1], after), (before, (), after),
                (before, paths + paths[:1], after), (before, paths[:-1] + ((k + 1, opened, siblings),), after),
                (before, paths[:-1] + ((k, opened + 1, siblings),), after),
                (before, paths[:-1] + ((k, opened, siblings[1:]),), after),
                (before, paths[:-1] + ((k, opened, siblings[:-1] + (-siblings[-1],)),), after),
            ):
                row = len(record) - 1
                self.refuse(house, case, clock, record[:-1] + ((word, who, words, other),), row)
        self.assertGreater(papers, 40)


class Changed(unittest.TestCase):
    """Records with one thing told otherwise, held against a referee who is answered from them."""

    def some_number(self, chance, number):
        return chance.choice((number + 1, number - 1, -number, 0, 1, 10 ** 12, number))

    def some_said(self, chance, said):
        if chance.random() < 0.3 or said is None:
            return chance.choice((None, 5, (3, 4), (0, 1), -1))
        if type(said) is int:
            return self.some_number(chance, said)
        return (self.some_number(chance, said[0]), said[1]) if chance.random() < 0.5 else (
            said[0], self.some_number(chance, said[1]))

    def some_asked(self, chance, row):
        word, floor, place, who, said = row
        kind = chance.randint(0, 5)
        if kind == 0:
            return (word, chance.choice(FLOORS), place, who, said)
        if kind == 1:
            other = chance.choice((0, 1, 2, (0, 4), (1, 1))) if chance.random() < 0.5 else place
            return (word, floor, other, who, said)
        if kind == 2:
            return (word, floor, place, chance.choice(((0,), (1,), (0, 1), (1, 0))), said)
        one = chance.randrange(len(said))
        what, late = said[one]
        answer = (what, self.some_number(chance, late)) if kind == 3 else (self.some_said(chance, what), late)
        return (word, floor, place, who, said[:one] + (answer,) + said[one + 1:])

    def some_out(self, chance, row):
        word, who, words, paper = row
        kind = chance.randint(0, 2)
        if kind == 0:
            return (word, chance.choice(((0,), (1,), (0, 1))), words, paper)
        if kind == 1:
            return (word, who, tuple([chance.choice(WORDS) for one in words]), paper)
        return (word, who, words, chance.choice((None, (1, (), 2), (1, ((0, 0, (3, 4)),), 2))))

    def some_change(self, chance, record):
        rows = list(record)
        number = chance.randrange(len(rows))
        other = chance.randrange(len(rows))
        kind = chance.randint(0, 8)
        if kind == 0:
            rows.pop(number)
        elif kind == 1:
            rows.insert(number, rows[other])
        elif kind == 2:
            rows[number], rows[other] = rows[other], rows[number]
        elif kind == 3:
            rows = rows[:number]
        elif rows[number][0] == "asked":
            rows[number] = self.some_asked(chance, rows[number])
        elif rows[number][0] == "out":
            rows[number] = self.some_out(chance, rows[number])
        else:
            rows[0] = ("claims", self.some_number(chance, rows[0][1]), rows[0][2])
        return tuple(rows)

    def test_many(self):
        counts = {"let by": 0, "refused": 0}
        for seed in range(150):
            house, case, clock, record = some_record(seed)
            chance = random.Random(seed)
            self.assertIsNone(due_row(house, case, clock, record))
            for turn in range(12):
                other = self.some_change(chance, record)
                due = due_row(house, case, clock, other)
                counts["let by" if due is None else "refused"] += 1
                try:
                    self.assertIs(record_holds(house, case, clock, other), True)
                    told = None
                except NoRecord as refusal:
                    told = refusal.row
                self.assertEqual(told, due, (seed, turn, record, other))
        self.assertGreater(min(counts.values()), 100, counts)


if __name__ == "__main__":
    unittest.main()
