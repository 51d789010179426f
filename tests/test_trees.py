"""Trees of words in a house: seals, words and paths opened, words put."""

import random
import unittest

from stepcourt.house import House
from stepcourt.trees import path_in, put_in, seal_of, word_in
from stepcourt.words import GREAT, WIDE

NEVER = (0, -1, -GREAT, GREAT, GREAT + 1, 10 ** 18 - 1)


def tuples():
    """Tuples of 1 to 64 words: all unlike, all alike, few unlike, halves alike."""
    chance = random.Random(3)
    for depth in range(7):
        size = 2 ** depth
        yield depth, tuple(range(100, 100 + size))
        yield depth, (7,) * size
        yield depth, (0,) * (size - 1) + (WIDE - 1,)
        yield depth, tuple(chance.choice((0, 1)) for turn in range(size))
        if depth:
            yield depth, tuple(chance.choice((0, 1, 2)) for turn in range(size // 2)) * 2


def tree_by_hand(house, words):
    """The seal of a tree, from the root down as the document tells it."""
    if len(words) == 1:
        return house.leaf(words[0])
    half = len(words) // 2
    return house.pair(tree_by_hand(house, words[:half]), tree_by_hand(house, words[half:]))


def siblings_by_hand(house, words, k):
    """The seals beside the path of word k, from the leaf up."""
    if len(words) == 1:
        return ()
    half = len(words) // 2
    one, other = words[:half], words[half:]
    if k < half:
        return siblings_by_hand(house, one, k) + (tree_by_hand(house, other),)
    return siblings_by_hand(house, other, k - half) + (tree_by_hand(house, one),)


class Seals(unittest.TestCase):
    def test_one_word(self):
        house = House()
        self.assertEqual(seal_of(house, (5,)), house.leaf(5))
        self.assertEqual(house.many(), 1)

    def test_two_and_four_words(self):
        house = House()
        a, b, c, d = [house.leaf(word) for word in (1, 2, 3, 4)]
        self.assertEqual(seal_of(house, (1, 2)), house.pair(a, b))
        self.assertEqual(seal_of(house, (2, 1)), house.pair(b, a))
        self.assertEqual(seal_of(house, (1, 2, 3, 4)), house.pair(house.pair(a, b), house.pair(c, d)))

    def test_first_and_second_halves(self):
        house = House()
        for depth, words in tuples():
            self.assertEqual(seal_of(house, words), tree_by_hand(house, words))

    def test_alike_just_where_the_words_are(self):
        house = House()
        seals = {}
        for depth, words in tuples():
            self.assertEqual(seals.setdefault(seal_of(house, words), words), words)
            self.assertEqual(seal_of(house, words), seal_of(house, tuple(list(words))))
        self.assertEqual(len(seals), len({words for depth, words in tuples()}))

    def test_alike_halves_are_kept_once(self):
        house = House()
        seal_of(house, (7,) * 64)
        self.assertEqual(house.many(), 7)

    def test_asked_again(self):
        house = House()
        words = tuple(range(32))
        seal = seal_of(house=house, words=words)
        many = house.many()
        self.assertEqual(seal_of(house, words), seal)
        self.assertEqual(house.many(), many)
        self.assertEqual(many, 63)


class Opened(unittest.TestCase):
    def test_every_word(self):
        house = House()
        for depth, words in tuples():
            seal = seal_of(house, words)
            many = house.many()
            for k, word in enumerate(words):
                self.assertEqual(word_in(house, seal, depth, k), word)
                path = path_in(house, seal, depth, k)
                self.assertEqual(path, (word, siblings_by_hand(house, words, k)))
                self.assertEqual((type(path), type(path[1])), (tuple, tuple))
                self.assertEqual(path_in(house, seal, depth, k), path)
            self.assertEqual(house.many(), many)

    def test_from_the_leaf_up(self):
        house = House()
        a, b, c, d = [house.leaf(word) for word in (1, 2, 3, 4)]
        one, other = house.pair(a, b), house.pair(c, d)
        seal = house.pair(one, other)
        self.assertEqual(path_in(house, seal, 2, 0), (1, (b, other)))
        self.assertEqual(path_in(house, seal, 2, 1), (2, (a, other)))
        self.assertEqual(path_in(house, seal, 2, 2), (3, (d, one)))
        self.assertEqual(path_in(house, seal, 2, 3), (4, (c, one)))

    def test_one_word(self):
        house = House()
        seal = house.leaf(0)
        self.assertEqual(word_in(house, seal, 0, 0), 0)
        self.assertEqual(path_in(house, seal, 0, 0), (0, ()))

    def test_by_names(self):
        house = House()
        seal = seal_of(house, (8, 9))
        self.assertEqual(word_in(house=house, seal=seal, depth=1, k=1), 9)
        self.assertEqual(path_in(house=house, seal=seal, depth=1, k=1), (9, (house.leaf(8),)))
        self.assertEqual(put_in(house=house, seal=seal, depth=1, k=1, word=8), seal_of(house, (8, 8)))


class Put(unittest.TestCase):
    def test_every_word(self):
        house = House()
        for depth, words in tuples():
            seal = seal_of(house, words)
            for k, word in enumerate(words):
                for new in (0, 7, WIDE - 1, word):
                    behind = put_in(house, seal, depth, k, new)
                    self.assertEqual(behind, seal_of(house, words[:k] + (new,) + words[k + 1:]))
                    self.assertEqual(behind == seal, new == word)
            self.assertEqual([word_in(house, seal, depth, k) for k in range(len(words))], list(words))

    def test_many_behind_one_another(self):
        chance = random.Random(4)
        for depth in range(7):
            house = House()
            words = [0] * 2 ** depth
            seal = seal_of(house, tuple(words))
            for turn in range(100):
                k, word = chance.randrange(2 ** depth), chance.choice((0, 1, chance.randrange(WIDE)))
                seal = put_in(house, seal, depth, k, word)
                words[k] = word
            self.assertEqual(seal, seal_of(house, tuple(words)))


class NotOpened(unittest.TestCase):
    def closed(self, house, seal, depth, k):
        many = house.many()
        self.assertIsNone(word_in(house, seal, depth, k))
        self.assertIsNone(path_in(house, seal, depth, k))
        self.assertIsNone(put_in(house, seal, depth, k, 5))
        self.assertEqual(house.many(), many)

    def test_numbers_never_given(self):
        house = House()
        seal_of(house, (1, 2, 3, 4))
        for number in NEVER + (house.many() + 1,):
            for depth in (0, 1, 2, 6):
                self.closed(house, number, depth, 0)

    def test_a_leaf_too_early(self):
        house = House()
        for depth in (1, 2, 6):
            for k in (0, 1, 2 ** depth - 1):
                self.closed(house, house.leaf(3), depth, k)
        seal = seal_of(house, (1, 2))
        for k in range(4):
            self.closed(house, seal, 2, k)

    def test_a_pair_where_a_leaf_is_due(self):
        house = House()
        seal = seal_of(house, (1, 2, 3, 4))
        self.closed(house, seal, 0, 0)
        self.closed(house, seal, 1, 0)
        self.closed(house, seal, 1, 1)

    def test_one_side_alone(self):
        house = House()
        leaf, two = house.leaf(1), seal_of(house, (5, 6))
        seal = house.pair(leaf, two)
        self.assertEqual(path_in(house, seal, 1, 0), (1, (two,)))
        self.closed(house, seal, 1, 1)
        self.closed(house, seal, 2, 0)
        self.closed(house, seal, 2, 1)
        self.assertEqual(path_in(house, seal, 2, 2), (5, (house.leaf(6), leaf)))
        self.assertEqual(put_in(house, seal, 2, 3, 9), house.pair(leaf, seal_of(house, (5, 9))))

    def test_another_houses_seals(self):
        first, second = House(), House()
        seal = seal_of(first, tuple(range(8)))
        self.closed(second, seal, 3, 0)


if __name__ == "__main__":
    unittest.main()
