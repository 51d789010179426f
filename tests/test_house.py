"""The house of seals: leaves, pairs, what is opened."""

import random
import unittest

from stepcourt.house import House
from stepcourt.words import GREAT, WIDE


class Seals(unittest.TestCase):
    def test_a_new_house(self):
        house = House()
        self.assertEqual(house.many(), 0)
        for number in (-1, 0, 1, 2, GREAT):
            self.assertIsNone(house.opened(number))

    def test_alike_ones_have_one_seal(self):
        house = House()
        five, six = house.leaf(5), house.leaf(6)
        both = house.pair(five, six)
        self.assertEqual(house.many(), 3)
        self.assertEqual((house.leaf(5), house.leaf(6), house.pair(five, six)), (five, six, both))
        self.assertEqual(house.many(), 3)

    def test_unlike_ones_have_unlike_seals(self):
        house = House()
        seals = [house.leaf(word) for word in (0, 1, 2, WIDE - 1)]
        seals += [house.pair(one, other) for one in seals for other in seals]
        seals += [house.pair(seals[0], other) for other in seals[4:]] + [house.pair(one, one) for one in seals[4:]]
        self.assertEqual(len(set(seals)), len(seals))
        self.assertEqual(house.many(), len(seals))

    def test_a_pair_and_its_other_way_round(self):
        house = House()
        one, other = house.leaf(1), house.leaf(2)
        self.assertNotEqual(house.pair(one, other), house.pair(other, one))

    def test_a_leaf_of_a_seals_number_is_no_pair(self):
        house = House()
        one = house.leaf(1)
        pair = house.pair(one, one)
        self.assertNotEqual(house.leaf(pair), pair)
        self.assertNotEqual(house.pair(pair, pair), house.leaf(pair))

    def test_from_one_on_below_the_great_number(self):
        house = House()
        seals = [house.leaf(word) for word in range(300)]
        seals += [house.pair(one, other) for one, other in zip(seals, seals[1:])]
        for seal in seals:
            self.assertIs(type(seal), int)
            self.assertTrue(1 <= seal < GREAT)

    def test_two_houses(self):
        first, second = House(), House()
        first.leaf(7)
        self.assertEqual(second.many(), 0)
        seal = second.leaf(8)
        self.assertEqual(second.opened(seal), ("leaf", 8))
        self.assertEqual(first.opened(first.leaf(7)), ("leaf", 7))
        self.assertEqual((first.many(), second.many()), (1, 1))


class Opened(unittest.TestCase):
    def test_leaves_and_pairs(self):
        house = House()
        zero, last = house.leaf(0), house.leaf(WIDE - 1)
        both = house.pair(zero, last)
        self.assertEqual(house.opened(zero), ("leaf", 0))
        self.assertEqual(house.opened(last), ("leaf", WIDE - 1))
        self.assertEqual(house.opened(both), ("pair", zero, last))
        self.assertIs(type(house.opened(both)), tuple)

    def test_numbers_never_given(self):
        house = House()
        given = [house.leaf(word) for word in range(5)]
        never = [number for number in range(-5, 20) if number not in given]
        for number in never + [GREAT - 1, GREAT, GREAT + 1, -GREAT, 10 ** 18 - 1, 1 - 10 ** 18]:
            self.assertIsNone(house.opened(number), number)
        self.assertEqual(house.many(), 5)
        self.assertEqual([house.leaf(word) for word in range(5)], given)

    def test_opened_by_names(self):
        house = House()
        one = house.leaf(word=3)
        self.assertEqual(house.opened(seal=house.pair(one=one, other=one)), ("pair", one, one))

    def test_many_at_random(self):
        chance = random.Random(5)
        house, made = House(), {}
        for turn in range(3000):
            seals = list(made)
            if not seals or chance.random() < 0.3:
                what = ("leaf", chance.choice((0, 1, 2, 3, chance.randrange(WIDE))))
                seal = house.leaf(what[1])
            else:
                what = ("pair", chance.choice(seals), chance.choice(seals))
                seal = house.pair(what[1], what[2])
            self.assertEqual(made.setdefault(seal, what), what)
            self.assertEqual(house.opened(seal), what)
            self.assertEqual(house.many(), len(made))
        self.assertEqual(len(set(made.values())), len(made))


if __name__ == "__main__":
    unittest.main()
