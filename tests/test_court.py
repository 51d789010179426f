"""Courts: who comes, who is put, who goes out, and where the purses go; and the plain court."""

import pathlib
import random
import sys
import unittest

sys.path.insert(0, str(pathlib.Path(__file__).resolve().parent))

from courting import CASES, TWICE, made_case, some_rules, true_places
from stepcourt.court import held
from stepcourt.dispute import Dispute, argued
from stepcourt.house import House
from stepcourt.places import Places
from stepcourt.plainly import plainly
from stepcourt.speakers import Speaker

CASE = (TWICE, (), 60, 5)
TRUE = ()


def says(number):
    """The rules of one who says one number everywhere, and, on the floor calls, the true rows with it."""
    return (((), ("number", number), 0),)


def mute(number):
    """The rules of one who claims a number and then is silent."""
    return (((("asked", 10 ** 6, 0),), ("number", number), 0), ((), ("silent",), 0))


def formless(number):
    """The rules of one who claims a number and then says what has no form on any floor."""
    return (((("asked", 10 ** 6, 0),), ("number", number), 0), ((), ("pair", -1, -1), 0))


SILENT = (((), ("silent",), 0),)
PAIR = (((), ("pair", 1, 2), 0),)


class Plain:
    """A court told anew: a list of all in their order, purses in a dict."""

    def __init__(self, house, case, clock, claimants):
        self.house, self.case, self.clock = house, case, clock
        places = Places(house, case)
        self.purses = {number: pledge for number, (rules, pledge, comes) in enumerate(claimants)}
        self.court = 0
        self.later = sorted((comes, number) for number, (rules, pledge, comes) in enumerate(claimants))
        self.speakers = [Speaker(places, rules) for rules, pledge, comes in claimants]
        self.there = []
        self.puttings = []
        self.run()

    def come(self, until):
        while self.later and self.later[0][0] <= until:
            number = self.later.pop(0)[1]
            claim = self.speakers[number].asked("rows", self.case[2])[0]
            if type(claim) is int:
                self.there.append((number, claim))
            else:
                self.court += self.purses[number]
                self.purses[number] = 0

    def run(self):
        while True:
            self.come(len(self.puttings))
            others = [pair for pair in self.there if pair[1] != self.there[0][1]]
            if others:
                self.put(self.there[0], others[0])
            elif self.later:
                self.come(self.later[0][0])
            else:
                break

    def put(self, one, other):
        numbers = [one[0], other[0]]
        dispute = Dispute(self.house, self.case, self.clock, (one[1], other[1]))
        who, words, paper = argued(dispute, self.speakers[numbers[0]], self.speakers[numbers[1]])
        out = sorted(zip([numbers[place] for place in who], words))
        stays = [number for number in numbers if number not in dict(out)]
        for number, word in out:
            if stays:
                self.purses[stays[0]] += self.purses[number]
            else:
                self.court += self.purses[number]
            self.purses[number] = 0
        self.there = [pair for pair in self.there if pair[0] not in dict(out)]
        self.puttings.append((numbers[0], numbers[1], tuple(dict(out)), tuple([word for number, word in out])))

    def told(self):
        claim = self.there[0][1] if self.there else None
        purses = tuple([self.purses[number] for number in range(len(self.purses))])
        return (claim, tuple(sorted(number for number, claim in self.there)), purses, self.court, self.puttings)


class Few(unittest.TestCase):
    def setUp(self):
        self.house = House()
        self.places, self.true = true_places(self.house, CASE)

    def held(self, *claimants, clock=0):
        return held(self.house, CASE, clock, claimants)

    def test_nobody(self):
        self.assertEqual(self.held(), (None, (), (), 0, []))

    def test_one_alone(self):
        self.assertEqual(self.held((TRUE, 5, 0)), (self.true, (0,), (5,), 0, []))
        self.assertEqual(self.held((TRUE, 5, 9)), (self.true, (0,), (5,), 0, []))
        self.assertEqual(self.held((says(-3), 5, 0)), (-3, (0,), (5,), 0, []))

    def test_all_of_one_claim(self):
        self.assertEqual(
            self.held((TRUE, 1, 0), (says(self.true), 2, 4), (TRUE, 3, 2)), (self.true, (0, 1, 2), (1, 2, 3), 0, []))

    def test_a_claim_that_is_no_whole_number(self):
        for rules in (SILENT, PAIR):
            self.assertEqual(self.held((rules, 7, 0)), (None, (), (0,), 7, []))
            self.assertEqual(self.held((rules, 7, 3), (TRUE, 2, 0)), (self.true, (1,), (0, 2), 7, []))
            told = self.held((says(-1), 1, 0), (rules, 7, 0), (TRUE, 2, 0), (rules, 4, 1))
            self.assertEqual(told[:4], (self.true, (2,), (0, 0, 3, 0), 11))
            self.assertEqual([putting[:3] for putting in told[4]], [(0, 2, (0,))])

    def test_late_at_the_claim_doesnt_count(self):
        rules = (((("asked", 1000, 0),), ("true", 0), 50),)
        told = self.held((rules, 7, 0), (says(-1), 7, 0))
        self.assertEqual(told[:4], (self.true, (0,), (14, 0), 0))

    def test_true_against_one(self):
        self.assertEqual(
            self.held((TRUE, 5, 0), (mute(-1), 3, 0)), (self.true, (0,), (8, 0), 0, [(0, 1, (1,), ("silent",))]))
        self.assertEqual(
            self.held((mute(-1), 5, 0), (TRUE, 3, 0)), (self.true, (1,), (0, 8), 0, [(0, 1, (0,), ("silent",))]))

    def test_both_told_off(self):
        told = self.held((mute(-1), 5, 0), (formless(-2), 3, 0))
        self.assertEqual(told, (None, (), (0, 0), 8, [(0, 1, (0, 1), ("silent", "form"))]))

    def test_both_told_off_are_told_by_their_numbers(self):
        # Number 1 came first, so it is the first of both.
        told = self.held((mute(-1), 5, 1), (formless(-2), 3, 0))
        self.assertEqual(told, (None, (), (0, 0), 8, [(1, 0, (0, 1), ("silent", "form"))]))

    def test_the_first_whose_claim_is_unlike(self):
        told = self.held((TRUE, 1, 0), (TRUE, 2, 0), (mute(-1), 4, 0), (formless(-1), 8, 0), (mute(-2), 16, 0))
        self.assertEqual(told, (
            self.true, (0, 1), (29, 2, 0, 0, 0), 0,
            [(0, 2, (2,), ("silent",)), (0, 3, (3,), ("form",)), (0, 4, (4,), ("silent",))]))

    def test_all_that_was_given_goes_on(self):
        # 0 takes all of 1, and then 2 takes all of 0.
        beats = (((("asked", 3, 2),), ("silent",), 0), ((("floor", "rows"),), ("number", -1), 0))
        told = self.held((beats, 1, 0), (mute(-2), 2, 0), (TRUE, 4, 0))
        self.assertEqual(told[2], (0, 0, 7))
        self.assertEqual([putting[:3] for putting in told[4]], [(0, 1, (1,)), (0, 2, (0,))])

    def test_purses_of_both_go_to_the_court(self):
        # 0 takes 2's purse; then both 0 and 1 go out.
        once = (((("asked", 3, 2),), ("silent",), 0), ((("floor", "rows"),), ("number", -1), 0))
        told = self.held((once, 1, 0), (mute(-2), 2, 0), (mute(-3), 4, 0), (TRUE, 8, 1))
        self.assertEqual(told[4][1], (0, 2, (0, 2), ("silent", "silent")))
        self.assertEqual(told[:4], (self.true, (3,), (0, 0, 0, 8), 7))

    def test_clocks_anew(self):
        # At each putting it is late by as much as the clock.
        rules = (((("floor", "calls"), ("from", 2, 2)), ("true", 0), 5),)
        told = self.held((rules, 0, 0), (mute(-1), 0, 0), (mute(-2), 0, 0), (mute(-3), 0, 0), clock=5)
        self.assertEqual(told[1], (0,))
        told = self.held((rules, 0, 0), (says(-1), 0, 0), clock=4)
        self.assertEqual(told[4], [(0, 1, (0,), ("late",))])

    def test_askings_are_counted_on(self):
        # The claim is the asking 0, and each putting asks one question: silent at the third.
        rules = (((("asked", 100, 3),), ("silent",), 0),)
        told = self.held((rules, 1, 0), (mute(-1), 1, 0), (mute(-2), 1, 0), (mute(-3), 1, 0), (TRUE, 1, 0))
        self.assertEqual(told[4], [
            (0, 1, (1,), ("silent",)), (0, 2, (2,), ("silent",)), (0, 3, (0, 3), ("silent", "silent"))])
        self.assertEqual(told[:4], (self.true, (4,), (0, 0, 0, 0, 1), 4))

    def test_again_at_row_n(self):
        # What was said last on the floor rows is the claim.
        rules = (((("asked", 100, 0),), ("number", -5), 0), ((), ("again",), 0))
        case = (TWICE, (), 2, 1)
        house = House()
        told = held(house, case, 0, ((rules, 0, 0), (TRUE, 0, 0)))
        self.assertEqual(told[1], (1,))
        self.assertEqual(told[4][0][2:], ((0,), ("deed",)))

    def test_names_and_kinds(self):
        told = held(house=self.house, case=CASE, clock=0, claimants=((TRUE, 5, 0), (mute(-1), 3, 0)))
        self.assertEqual([type(part) for part in told], [int, tuple, tuple, int, list])
        self.assertEqual([type(part) for part in told[4][0]], [int, int, tuple, tuple])

    def test_what_is_told_is_the_askers_own(self):
        claimants = ((TRUE, 5, 0), (mute(-1), 3, 0))
        first = held(self.house, CASE, 0, claimants)
        first[4].clear()
        self.assertEqual(held(self.house, CASE, 0, claimants)[4], [(0, 1, (1,), ("silent",))])
        self.assertEqual(claimants, ((TRUE, 5, 0), (mute(-1), 3, 0)))


class Coming(unittest.TestCase):
    def setUp(self):
        self.house = House()
        self.places, self.true = true_places(self.house, CASE)

    def puttings(self, *claimants):
        return [putting[:3] for putting in held(self.house, CASE, 0, claimants)[4]]

    def test_one_behind_another(self):
        # 2 comes behind the first putting, 1 behind the second.
        told = self.puttings((TRUE, 0, 0), (mute(-1), 0, 2), (mute(-2), 0, 1), (mute(-3), 0, 0))
        self.assertEqual(told, [(0, 3, (3,)), (0, 2, (2,)), (0, 1, (1,))])

    def test_who_comes_later_stands_behind(self):
        # 0 comes behind the first putting, and so behind 3.
        told = self.puttings((mute(-1), 0, 1), (TRUE, 0, 0), (mute(-2), 0, 0), (mute(-3), 0, 0))
        self.assertEqual(told, [(1, 2, (2,)), (1, 3, (3,)), (1, 0, (0,))])

    def test_the_first_of_all_is_who_came_first(self):
        told = self.puttings((TRUE, 0, 1), (says(-1), 0, 0), (mute(-2), 0, 0))
        self.assertEqual(told, [(1, 2, (2,)), (1, 0, (1,))])

    def test_at_once_by_numbers(self):
        told = self.puttings((mute(-1), 0, 3), (TRUE, 0, 7), (mute(-2), 0, 3), (TRUE, 0, 3))
        # 0, 2 and 3 come at once, as none is there; 0 and 2 both go out.
        self.assertEqual(told, [(0, 2, (0, 2))])

    def test_gaps(self):
        # Nobody is there at first; then 1 alone; then 0, whose claim is alike; then 2.
        told = self.puttings((TRUE, 0, 5), (TRUE, 0, 3), (mute(-2), 0, 8))
        self.assertEqual(told, [(1, 2, (2,))])

    def test_a_gap_closed_doesnt_hasten_others(self):
        # 1 comes ahead of its time, as 0 is alone. Behind one putting 0 is alone again: 2 comes, and not yet 3.
        told = self.puttings((TRUE, 0, 0), (mute(-1), 0, 4), (mute(-2), 0, 6), (mute(-3), 0, 7))
        self.assertEqual(told, [(0, 1, (1,)), (0, 2, (2,)), (0, 3, (3,))])
        # 3 and 4 come ahead of their time, and 1 and 2 not until both are gone.
        told = self.puttings((TRUE, 0, 0), (mute(-1), 0, 4), (mute(-2), 0, 4), (mute(-3), 0, 2), (mute(-4), 0, 2))
        self.assertEqual(told, [(0, 3, (3,)), (0, 4, (4,)), (0, 1, (1,)), (0, 2, (2,))])

    def test_whose_time_is_come_while_two_claims_are_there(self):
        told = self.puttings((TRUE, 0, 0), (mute(-1), 0, 0), (mute(-2), 0, 2), (mute(-3), 0, 0), (mute(-4), 0, 0))
        self.assertEqual(told, [(0, 1, (1,)), (0, 3, (3,)), (0, 4, (4,)), (0, 2, (2,))])
        told = self.puttings((TRUE, 0, 1), (says(-1), 0, 0), (mute(-2), 0, 0), (mute(-3), 0, 0))
        self.assertEqual(told, [(1, 2, (2,)), (1, 3, (3,)), (1, 0, (1,))])

    def test_all_gone_and_others_come(self):
        told = held(self.house, CASE, 0, ((mute(-1), 1, 0), (mute(-2), 2, 0), (TRUE, 4, 1), (mute(-3), 8, 50)))
        self.assertEqual(told, (
            self.true, (2,), (0, 0, 12, 0), 3, [(0, 1, (0, 1), ("silent", "silent")), (2, 3, (3,), ("silent",))]))


class Many(unittest.TestCase):
    def some_court(self, seed):
        chance = random.Random(seed)
        house = House()
        case = made_case(seed) if seed % 3 == 0 else chance.choice(CASES)
        places, true = true_places(house, case)
        claimants = []
        for turn in range(chance.randint(0, 8)):
            rules = TRUE if chance.random() < 0.25 else some_rules(chance, places)
            if chance.random() < 0.3:
                # Who claims another thing and says what is true else.
                rules = (((("asked", 1000, 0),), ("number", -chance.randint(1, 3)), 0),)
            comes = chance.choice((0, 0, 0, 1, 2, 3, 5, 100))
            claimants.append((rules, chance.choice((0, 1, 10, 1000000)), comes if seed % 2 else 0))
        return house, case, chance.choice((0, 3, 1000)), tuple(claimants), true

    def test_against_one_told_anew(self):
        counts = {"none": 0, "both": 0, "puttings": 0}
        for seed in range(300):
            house, case, clock, claimants, true = self.some_court(seed)
            told = held(house, case, clock, claimants)
            self.assertEqual(told, Plain(house, case, clock, claimants).told())
            self.assertEqual(held(house, case, clock, claimants), told)
            counts["none"] += told[0] is None
            counts["both"] += len([putting for putting in told[4] if len(putting[2]) == 2])
            counts["puttings"] += len(told[4])
        self.assertGreater(min(counts.values()), 20, counts)

    def test_what_is_promised_of_any_court(self):
        for seed in range(200):
            house, case, clock, claimants, true = self.some_court(seed)
            claim, who, purses, purse, puttings = held(house, case, clock, claimants)
            self.assertEqual(sum(purses) + purse, sum([pledge for rules, pledge, comes in claimants]))
            gone = [number for putting in puttings for number in putting[2]]
            self.assertEqual(len(set(gone)), len(gone))
            self.assertEqual(set(gone) & set(who), set())
            for one, other, out, words in puttings:
                self.assertGreaterEqual(len(out), 1)
                self.assertLessEqual(set(out), {one, other})
                self.assertEqual(len(words), len(out))
            for number in range(len(claimants)):
                self.assertTrue(number in who or purses[number] == 0)
            self.assertEqual(claim is None, who == ())

    def test_with_one_who_says_what_is_true(self):
        for seed in range(200):
            house, case, clock, claimants, true = self.some_court(seed)
            chance = random.Random(seed)
            place = chance.randint(0, len(claimants))
            claimants = claimants[:place] + ((TRUE, 7, chance.choice((0, 1, 4))),) + claimants[place:]
            claim, who, purses, purse, puttings = held(house, case, clock, claimants)
            self.assertEqual(claim, true)
            for number, (rules, pledge, comes) in enumerate(claimants):
                if rules == TRUE:
                    self.assertIn(number, who)
                    self.assertGreaterEqual(purses[number], pledge)
            plain, claim_it = plainly(house, case, claimants)
            self.assertEqual(plain, claim)
            self.assertLessEqual(set(who), set(claim_it))


class Plainly(unittest.TestCase):
    def test_none_and_few(self):
        house = House()
        places, true = true_places(house, CASE)
        self.assertEqual(plainly(house, CASE, ()), (true, ()))
        self.assertEqual(plainly(house, CASE, ((TRUE, 1, 0),)), (true, (0,)))
        claimants = (
            (says(-1), 1, 0), (says(true), 2, 9), (SILENT, 3, 0), (TRUE, 4, 3), (PAIR, 5, 0), (mute(true), 6, 0))
        self.assertEqual(plainly(house=house, case=CASE, claimants=claimants), (true, (1, 3, 5)))

    def test_at_a_first_asking(self):
        house = House()
        places, true = true_places(house, CASE)
        first = (((("asked", 2, 0),), ("number", -1), 0),)
        second = (((("asked", 2, 1),), ("number", -1), 0),)
        late = (((), ("true", 0), 1000),)
        again = (((), ("again",), 0),)
        beyond = (((), ("true", 5), 0),)
        before = (((), ("true", -59), 0),)
        deeds = (((("floor", "deeds"),), ("silent",), 0),)
        rules = (first, second, late, again, beyond, before, deeds)
        told = plainly(house, CASE, tuple([(rule, 0, 0) for rule in rules]))
        self.assertEqual(told, (true, (1, 2, 3, 4, 6)))

    def test_the_true_claim_of_each_case(self):
        for case in CASES:
            house = House()
            self.assertEqual(plainly(house, case, ())[0], Places(house, case).at("rows", case[2]))

    def test_two_houses(self):
        one, other = House(), House()
        other.leaf(77)
        for house in (one, other):
            claim, who = plainly(house, CASE, ((TRUE, 0, 0), (TRUE, 0, 0)))
            self.assertEqual(who, (0, 1))
            self.assertEqual(house.opened(claim)[0], "pair")


if __name__ == "__main__":
    unittest.main()
