"""Webs: runs that lean on one another, settled by courts in any order, and run plainly."""

import itertools
import pathlib
import random
import sys
import unittest

sys.path.insert(0, str(pathlib.Path(__file__).resolve().parent))

from courting import DEEP, EMPTY, LOOP, NEVER
from making import Maker, stand
from stepcourt.court import held
from stepcourt.house import House
from stepcourt.places import Places
from stepcourt.plain import plain_run
from stepcourt.errors import TooLong
from stepcourt.reader import read
from stepcourt.trees import seal_of
from stepcourt.web import settled, web_plainly
from stepcourt.written import answer_in

DOUBLE = read("cell n 1\nmain\nset n (* n 2)\nend")
SUM = read("cell a 0\ncell b 0\nmain\nset a (+ a b)\nend")
# x times 2, n times.
POWER = read("cell x 1\ncell n 3\ndef f\nset x (* x 2)\nset n (- n 1)\nend\nmain\nwhile n\ncall f\nend\nend")
THREE = read("cell a 0\ncell b 0\ncell c 0\nmain\nset a (- (+ a (* b 10)) c)\nend")

# 6, 6 + 6, 3 * 2 ** 6, 12 + 10 * 192 - 6, 1 * 2.
WEB = (
    (DOUBLE, (3,), 10, 1), (SUM, (("of", 0), ("of", 0)), 10, 2), (POWER, (3, ("of", 0)), 150, 8),
    (THREE, (("of", 1), ("of", 2), ("of", 0)), 20, 1), (DOUBLE, (), 400, 3),
)
ANSWERS = (("answer", 6), ("answer", 12), ("answer", 192), ("answer", 1926), ("answer", 2))
LEANS = ((), (6, 6), (6,), (12, 192, 6), ())
TRUE = ()
MUTE = (((("asked", 1000000, 0),), ("number", -1), 0), ((), ("silent",), 0))


def says(number):
    return (((), ("number", number), 0),)


def true_ones(leans=LEANS):
    """One for each run who leans on these words and says what is true."""
    return tuple([((words, TRUE),) for words in leans])


def case_of(run, leans):
    """The case of a run with words in the place of others' answers."""
    left = list(leans)
    numbers = tuple([number if type(number) is int else left.pop(0) for number in run[1]])
    return (run[0], numbers) + run[2:]


class Plainly(unittest.TestCase):
    def test_known_sums(self):
        self.assertEqual(web_plainly(WEB), ANSWERS)
        self.assertEqual(web_plainly(web=WEB[:1]), ANSWERS[:1])

    def test_not_done_in_its_rows(self):
        # Four rows, then end.
        for n, due in ((1, ("open",)), (3, ("open",)), (4, ("answer", 8)), (5, ("answer", 8))):
            self.assertEqual(web_plainly(((DOUBLE, (4,), n, 1),)), (due,))

    def test_stuck_and_endless_ones(self):
        self.assertEqual(web_plainly(((DEEP, (), 300, 4), (LOOP, (), 400, 1))), (("open",), ("open",)))

    def test_who_leans_on_one_without_an_answer(self):
        web = ((LOOP, (), 50, 1), (DOUBLE, (("of", 0),), 10, 1), (DOUBLE, (("of", 1),), 10, 1), (EMPTY, (), 1, 1))
        self.assertEqual(web_plainly(web), (("open",), None, None, ("answer", 7)))
        web = ((EMPTY, (), 1, 1), (LOOP, (), 9, 2), (SUM, (("of", 0), ("of", 1)), 10, 1), (SUM, (("of", 0), 5), 10, 1))
        self.assertEqual(web_plainly(web), (("answer", 7), ("open",), None, ("answer", 12)))

    def test_numbers_in_the_place_of_the_first_cells_alone(self):
        self.assertEqual(web_plainly(((EMPTY, (4,), 1, 1), (POWER, (("of", 0),), 99, 1))), (("answer", 4), ("answer", 32)))

    def test_many_against_plain_runs(self):
        answers = 0
        for seed in range(200):
            maker = Maker(seed)
            program = maker.program()
            numbers = maker.numbers(program)
            told = web_plainly(((program, numbers, 400, 1),))
            try:
                states, end = plain_run(program, numbers, 30)
            except TooLong:
                continue
            if end[0] == "stuck":
                self.assertEqual(told, (("open",),))
            elif told != (("open",),):
                answers += 1
                self.assertEqual(told, (("answer", end[1][0]),))
        self.assertGreater(answers, 60)


class Settled(unittest.TestCase):
    def test_true_ones(self):
        self.assertEqual(settled(House(), WEB, true_ones(), 0, range(5)), ANSWERS)
        self.assertEqual(
            settled(house=House(), web=WEB, claimants=true_ones(), clock=0, order=[0, 1, 2, 3, 4]), ANSWERS)

    def test_one_run(self):
        self.assertEqual(settled(House(), WEB[:1], true_ones()[:1], 0, (0,)), ANSWERS[:1])

    def test_any_order_as_a_list_or_a_tuple(self):
        house = House()
        for order in itertools.permutations(range(5)):
            self.assertEqual(settled(house, WEB, true_ones(), 0, order), ANSWERS)
            listed = list(order)
            self.assertEqual(settled(House(), WEB, true_ones(), 0, listed), ANSWERS)
            self.assertEqual(listed, list(order))

    def test_liars_beside_true_ones(self):
        claimants = tuple([((words, MUTE), (words, TRUE), (words, says(-2)), (words, TRUE)) for words in LEANS])
        for order in ((0, 1, 2, 3, 4), (4, 3, 2, 1, 0)):
            self.assertEqual(settled(House(), WEB, claimants, 0, order), ANSWERS)

    def test_kinds(self):
        told = settled(House(), WEB, true_ones(), 0, range(5))
        self.assertIs(type(told), tuple)
        self.assertEqual([type(part) for part in told], [tuple] * 5)
        self.assertEqual([type(part) for part in web_plainly(WEB)], [tuple] * 5)

    def test_nobody_claims(self):
        self.assertEqual(settled(House(), WEB, ((), (), (), (), ()), 0, range(5)), (None,) * 5)
        claimants = ((),) + true_ones()[1:]
        self.assertEqual(settled(House(), WEB, claimants, 0, range(5)), (None, None, None, None, ("answer", 2)))

    def test_nobody_leans_on_what_stands(self):
        for leans in ((6, 7), (7, 6), (7, 7), (0, 0)):
            claimants = true_ones(LEANS[:1] + (leans,) + LEANS[2:])
            told = settled(House(), WEB, claimants, 0, range(5))
            self.assertEqual(told, (("answer", 6), None, ("answer", 192), None, ("answer", 2)))

    def test_those_with_other_leans_have_a_court_of_their_own(self):
        # Those who lean on 7 would beat the one who leans on 6, were they of one court.
        web = WEB[:1] + ((DOUBLE, (("of", 0),), 10, 1),)
        claimants = ((((), TRUE),), (((7,), TRUE), ((6,), says(-1)), ((7,), TRUE), ((6,), TRUE)))
        self.assertEqual(settled(House(), web, claimants, 0, (1, 0)), (("answer", 6), ("answer", 12)))
        claimants = ((((), TRUE),), (((7,), TRUE), ((6,), says(-1)), ((7,), TRUE)))
        self.assertEqual(settled(House(), web, claimants, 0, (1, 0)), (("answer", 6), None))

    def test_no_claim_stands(self):
        silent = (((), ("silent",), 0),)
        for rules in ((silent,), (MUTE, (((("asked", 1000000, 0),), ("number", -2), 0), ((), ("silent",), 0)))):
            claimants = (tuple([((), rule) for rule in rules]),) + true_ones()[1:]
            told = settled(House(), WEB, claimants, 0, range(5))
            self.assertEqual(told, (None, None, None, None, ("answer", 2)))

    def test_a_claim_that_tells_nothing(self):
        for number in NEVER:
            claimants = true_ones()[:4] + ((((), says(number)),),)
            self.assertEqual(settled(House(), WEB, claimants, 0, range(5))[4], None)

    def test_a_false_claim_that_stands_alone(self):
        # The first run's only claimant says that it ended with 5: those who lean on 5 are courts then.
        house = House()
        false = seal_of(house, stand(DOUBLE, boxes=(5,), row=4))
        claimants = ((((), says(false)),), (((6, 6), TRUE), ((5, 5), TRUE)), (((6,), TRUE),), (), (((), TRUE),))
        for order in ((0, 1, 2, 3, 4), [3, 1, 4, 0, 2]):
            told = settled(house, WEB, claimants, 0, order)
            self.assertEqual(told, (("answer", 5), ("answer", 10), None, None, ("answer", 2)))
        opened = seal_of(house, stand(DOUBLE, boxes=(5,), row=2))
        told = settled(house, WEB, ((((), says(opened)),),) + claimants[1:], 0, range(5))
        self.assertEqual(told, (("open",), None, None, None, ("answer", 2)))

    def test_not_done_in_its_rows(self):
        web = ((DOUBLE, (3,), 2, 1), (DOUBLE, (("of", 0),), 10, 1), (DEEP, (), 100, 9))
        claimants = ((((), TRUE),), (((6,), TRUE), ((3,), TRUE)), (((), MUTE), ((), TRUE)))
        self.assertEqual(settled(House(), web, claimants, 0, (2, 1, 0)), (("open",), None, ("open",)))
        self.assertEqual(web_plainly(web), (("open",), None, ("open",)))

    def test_one_that_leans_on_a_run_that_stands_and_one_that_doesnt(self):
        web = ((EMPTY, (), 1, 1), (LOOP, (), 9, 2), (SUM, (("of", 0), ("of", 1)), 10, 1), (SUM, (("of", 0), 5), 10, 1))
        claimants = ((((), TRUE),), (((), TRUE),), (((7, 0), TRUE), ((7, 7), TRUE)), (((7,), TRUE),))
        told = settled(House(), web, claimants, 0, (3, 1, 2, 0))
        self.assertEqual(told, (("answer", 7), ("open",), None, ("answer", 12)))

    def test_the_clock(self):
        late = (((("floor", "rows"), ("from", 0, 9)), ("true", 0), 4),)
        claimants = ((((), MUTE), ((), says(-2)), ((), late)),)
        self.assertEqual(settled(House(), WEB[4:], claimants, 100, (0,)), (("answer", 2),))
        claimants = ((((), says(-2)), ((), late)),)
        self.assertEqual(settled(House(), ((DOUBLE, (), 4, 1),), claimants, 7, (0,)), (None,))
        self.assertEqual(settled(House(), ((DOUBLE, (), 4, 1),), claimants, 8, (0,)), (("answer", 2),))

    def test_all_come_at_first(self):
        # The first of all and the first unlike are put, so the true one, who comes last, meets who is left.
        claimants = ((((), says(-1)), ((), MUTE), ((), says(-2)), ((), TRUE)),)
        self.assertEqual(settled(House(), WEB[:1], claimants, 0, (0,)), ANSWERS[:1])

    def test_what_is_handed_in_stays(self):
        order = [4, 2, 0, 1, 3]
        claimants = true_ones()
        house = House()
        first = settled(house, WEB, claimants, 0, order)
        self.assertEqual(order, [4, 2, 0, 1, 3])
        self.assertEqual(claimants, true_ones())
        self.assertEqual(settled(house, WEB, claimants, 0, order), first)


class Many(unittest.TestCase):
    def some_web(self, chance):
        runs = []
        for number in range(chance.randint(1, 5)):
            program = chance.choice((DOUBLE, SUM, POWER, THREE, EMPTY, SUM, DOUBLE, LOOP))
            numbers = []
            for cell in range(chance.randint(0, len(program[0]))):
                word = chance.choice((0, 1, 2, 5, 8))
                numbers.append(("of", chance.randrange(number)) if number and chance.random() < 0.6 else word)
            runs.append((program, tuple(numbers), chance.choice((3, 20, 90, 90, 90)), chance.choice((1, 2, 5))))
        return tuple(runs)

    def some_rule(self, chance):
        says = chance.choice((
            ("true", chance.choice((-1, 0, 1, 400))), ("number", chance.choice(NEVER)), ("pair", 1, chance.choice(NEVER)),
            ("again",), ("silent",),
        ))
        tests = chance.choice(((), (("floor", "rows"),), (("asked", 2, 0),), (("from", 0, 10),), (("floor", "calls"),)))
        return (tests, says, chance.choice((0, 0, 3)))

    def some_claimants(self, chance, web, true_too):
        """For each run some with any leans; where asked for, one who leans on what running it plainly tells."""
        plain = web_plainly(web)
        claimants = []
        for program, numbers, n, m in web:
            leaned = [plain[number[1]] for number in numbers if type(number) is tuple]
            words = tuple([told[1] if told is not None and told[0] == "answer" else 3 for told in leaned])
            own = []
            for turn in range(chance.randint(0, 3)):
                leans = tuple([chance.choice((word, word, word, 0)) for word in words])
                own.append((leans, tuple([self.some_rule(chance) for rule in range(chance.randint(0, 3))])))
            if true_too:
                own.insert(chance.randint(0, len(own)), (words, TRUE))
            claimants.append(tuple(own))
        return tuple(claimants)

    def orders(self, chance, web):
        numbers = list(range(len(web)))
        for turn in range(3):
            yield tuple(numbers) if turn % 2 else list(numbers)
            chance.shuffle(numbers)

    def test_as_running_all_plainly_tells(self):
        told = {}
        for seed in range(150):
            chance = random.Random(seed)
            web = self.some_web(chance)
            claimants = self.some_claimants(chance, web, True)
            plain = web_plainly(web)
            for part in plain:
                told[part and part[0]] = told.get(part and part[0], 0) + 1
            for order in self.orders(chance, web):
                self.assertEqual(settled(House(), web, claimants, chance.choice((0, 5)), order), plain)
        self.assertGreater(min(told["answer"], told["open"], told[None]), 20, told)

    def due(self, house, web, claimants, clock):
        """Told anew: a run's court is held only by those who lean on what stands."""
        stands = []
        for run, own in zip(web, claimants):
            leaned = [stands[number[1]] for number in run[1] if type(number) is tuple]
            if [told for told in leaned if told is None or len(told) == 1]:
                stands.append(None)
                continue
            words = tuple([told[1] for told in leaned])
            case = case_of(run, words)
            claim = held(house, case, clock, tuple([(rules, 0, 0) for leans, rules in own if leans == words]))[0]
            stands.append(None if claim is None else answer_in(house, case, claim))
        return tuple(stands)

    def test_any_claimants_in_any_order(self):
        for seed in range(200):
            chance = random.Random(seed)
            web = self.some_web(chance)
            claimants = self.some_claimants(chance, web, chance.random() < 0.3)
            clock = chance.choice((0, 5))
            due = self.due(House(), web, claimants, clock)
            for order in self.orders(chance, web):
                self.assertEqual(settled(House(), web, claimants, clock, order), due)

    def test_seals_that_were_given_ahead(self):
        false = 0
        for seed in range(100):
            chance = random.Random(seed)
            web = self.some_web(chance)
            house = House()
            claimants = []
            for run in web:
                words = tuple([chance.choice((0, 7)) for number in run[1] if type(number) is tuple])
                places = Places(house, case_of(run, words))
                ahead = [seal_of(house, places.stand_at(row)[:6] + (7,) + places.stand_at(row)[7:]) for row in (2, run[2])]
                claimants.append(tuple([(words, says(chance.choice(ahead))) for turn in range(chance.randint(1, 3))]))
            due = self.due(house, web, claimants, 0)
            false += ("answer", 7) in due
            for order in self.orders(chance, web):
                self.assertEqual(settled(house, web, claimants, 0, order), due)
        self.assertGreater(false, 30)


if __name__ == "__main__":
    unittest.main()
