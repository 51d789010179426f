"""Opened paths and the seals that they come to."""

import random
import unittest

from stepcourt.house import House
from stepcourt.partial import comes_to, comes_to_with
from stepcourt.trees import path_in, put_in, seal_of
from stepcourt.words import GREAT, WIDE

NEVER = (0, -1, -GREAT, GREAT, GREAT + 1, 10 ** 18 - 1, 1 - 10 ** 18)


def path_of(house, seal, depth, k):
    """A path as papers have it."""
    word, siblings = path_in(house, seal, depth, k)
    return (k, word, siblings)


def trees():
    """A house for each depth from 0 to 6 and sort of words, with the words and their seal."""
    chance = random.Random(6)
    for depth in range(7):
        size = 2 ** depth
        for words in (
            tuple(range(size)), (3,) * size, tuple([chance.choice((0, 1)) for turn in range(size)]),
        ):
            house = House()
            yield house, depth, words, seal_of(house, words)


def some_paths(chance, house, depth, seal):
    """Paths of one, some or all words, in any order."""
    many = chance.choice((1, 2, 3, 2 ** depth))
    numbers = chance.sample(range(2 ** depth), min(many, 2 ** depth))
    return tuple([path_of(house, seal, depth, k) for k in numbers])


class Together(unittest.TestCase):
    def test_each_path_alone(self):
        for house, depth, words, seal in trees():
            for k in range(len(words)):
                self.assertEqual(comes_to(house, depth, (path_of(house, seal, depth, k),)), seal)

    def test_some_and_all_in_any_order(self):
        chance = random.Random(7)
        for house, depth, words, seal in trees():
            for turn in range(20):
                paths = some_paths(chance, house, depth, seal)
                self.assertEqual(comes_to(house, depth, paths), seal)
            everything = tuple([path_of(house, seal, depth, k) for k in range(len(words))])
            self.assertEqual(comes_to(house, depth, everything), seal)
            self.assertEqual(comes_to(house, depth, everything[::-1]), seal)

    def test_one_word(self):
        house = House()
        seal = house.leaf(8)
        self.assertEqual(comes_to(house, 0, ((0, 8, ()),)), seal)
        self.assertEqual(comes_to_with(house, 0, ((0, 8, ()),), {}), seal)
        self.assertEqual(comes_to_with(house, 0, ((0, 8, ()),), {0: 9}), house.leaf(9))

    def test_a_tree_that_the_house_never_had(self):
        house = House()
        one = house.leaf(1)
        made = comes_to(house, 1, ((1, 5, (one,)),))
        self.assertEqual(made, seal_of(house, (1, 5)))

    def test_another_word_comes_to_another_seal(self):
        for house, depth, words, seal in trees():
            k, word, siblings = path_of(house, seal, depth, len(words) - 1)
            put = put_in(house, seal, depth, k, word + 1)
            self.assertEqual(comes_to(house, depth, ((k, word + 1, siblings),)), put)

    def test_by_names_and_again(self):
        house = House()
        seal = seal_of(house, (4, 5))
        paths = ((0, 4, (house.leaf(5),)),)
        self.assertEqual(comes_to(house=house, depth=1, paths=paths), seal)
        many = house.many()
        self.assertEqual(comes_to(house, 1, paths), seal)
        self.assertEqual(house.many(), many)
        written = {0: 5}
        told = comes_to_with(house=house, depth=1, paths=paths, written=written)
        self.assertEqual(told, seal_of(house, (5, 5)))
        self.assertEqual(comes_to_with(house, 1, paths, written), told)
        self.assertEqual(written, {0: 5})


class PutOtherwise(unittest.TestCase):
    def test_nothing(self):
        chance = random.Random(8)
        for house, depth, words, seal in trees():
            self.assertEqual(comes_to_with(house, depth, some_paths(chance, house, depth, seal), {}), seal)

    def test_some_to_all(self):
        chance = random.Random(9)
        for house, depth, words, seal in trees():
            for turn in range(20):
                paths = some_paths(chance, house, depth, seal)
                numbers = [path[0] for path in paths]
                put = chance.sample(numbers, chance.randint(1, len(numbers)))
                written = {k: chance.choice((0, 1, 7, WIDE - 1)) for k in put}
                behind = tuple([written.get(k, word) for k, word in enumerate(words)])
                self.assertEqual(comes_to_with(house, depth, paths, written), seal_of(house, behind))

    def test_two_beside_one_another(self):
        house = House()
        seal = seal_of(house, (1, 2, 3, 4))
        paths = (path_of(house, seal, 2, 0), path_of(house, seal, 2, 1), path_of(house, seal, 2, 3))
        self.assertEqual(comes_to_with(house, 2, paths, {1: 9, 0: 8}), seal_of(house, (8, 9, 3, 4)))
        self.assertEqual(comes_to_with(house, 2, paths, {0: 8, 3: 7}), seal_of(house, (8, 2, 3, 7)))
        self.assertEqual(comes_to_with(house, 2, paths, {3: 7, 1: 9, 0: 8}), seal_of(house, (8, 9, 3, 7)))

    def test_words_as_they_were(self):
        house = House()
        seal = seal_of(house, (1, 2, 3, 4))
        paths = (path_of(house, seal, 2, 0), path_of(house, seal, 2, 3))
        self.assertEqual(comes_to_with(house, 2, paths, {0: 1, 3: 4}), seal)


class Apart(unittest.TestCase):
    def setUp(self):
        self.house = House()
        self.words = (1, 2, 3, 4, 5, 6, 7, 8)
        self.seal = seal_of(self.house, self.words)
        self.paths = tuple([path_of(self.house, self.seal, 3, k) for k in range(8)])

    def none(self, paths, depth=3):
        many = self.house.many()
        self.assertIsNone(comes_to(self.house, depth, paths))
        return self.house.many() == many

    def test_no_paths(self):
        self.none(())
        self.none((), depth=0)

    def test_other_than_depth_siblings(self):
        k, word, siblings = self.paths[2]
        for other in (siblings[:2], siblings[1:], (), siblings + (self.seal,)):
            self.assertTrue(self.none(((k, word, other),)))
            self.assertTrue(self.none((self.paths[0], (k, word, other))))
        self.assertTrue(self.none((self.paths[0],), depth=2))
        self.assertTrue(self.none((self.paths[0],), depth=4))
        self.assertTrue(self.none((self.paths[0],), depth=0))
        self.assertTrue(self.none(((0, 1, (self.seal,)),), depth=0))

    def test_siblings_that_the_house_never_gave(self):
        k, word, siblings = self.paths[5]
        for number in NEVER:
            for place in range(3):
                other = siblings[:place] + (number,) + siblings[place + 1:]
                self.assertTrue(self.none(((k, word, other),)))
                self.assertTrue(self.none((self.paths[0], (k, word, other))))

    def test_words_that_are_none(self):
        k, word, siblings = self.paths[5]
        for number in (-1, WIDE, WIDE + 5, 10 ** 18 - 1, 1 - 10 ** 18):
            self.assertTrue(self.none(((k, number, siblings),)))
            self.assertTrue(self.none((self.paths[0], (k, number, siblings))))
            self.assertIsNone(comes_to(self.house, 0, ((0, number, ()),)))

    def test_k_below_nought_or_beyond_the_tree(self):
        for k, path in ((-1, 7), (-8, 0), (8, 0), (9, 1), (16, 0), (10 ** 18 - 1, 7), (1 - 10 ** 18, 1)):
            self.assertTrue(self.none(((k,) + self.paths[path][1:],)))
            self.assertTrue(self.none((self.paths[3], (k,) + self.paths[path][1:])))
        self.assertIsNone(comes_to(self.house, 0, ((1, 1, ()),)))
        self.assertIsNone(comes_to(self.house, 0, ((-1, 1, ()),)))

    def test_one_k_twice(self):
        self.assertTrue(self.none((self.paths[4], self.paths[4])))
        self.assertTrue(self.none((self.paths[4], self.paths[1], self.paths[4])))
        k, word, siblings = self.paths[4]
        self.none((self.paths[4], (k, word + 1, siblings)))
        self.assertIsNone(comes_to(self.house, 0, ((0, 1, ()), (0, 1, ()))))

    def test_paths_of_two_trees(self):
        words = self.words[:6] + (0,) + self.words[7:]
        other = seal_of(self.house, words)
        for first in range(8):
            for second in range(8):
                if first != second:
                    self.none((self.paths[first], path_of(self.house, other, 3, second)))

    def test_paths_that_part_at_a_sibling(self):
        # Beside one another: the one's leaf isn't the sibling that the other has for it.
        other = seal_of(self.house, (1, 9, 3, 4, 5, 6, 7, 8))
        self.none((self.paths[0], path_of(self.house, other, 3, 1)))
        # Siblings of one place, unlike though neither path goes through it.
        self.none((self.paths[0], path_of(self.house, seal_of(self.house, (1, 2, 3, 4, 5, 6, 7, 9)), 3, 1)))

    def test_halves_alike_and_a_sibling_of_another_height(self):
        house = House()
        leaf = house.leaf(1)
        both = house.pair(leaf, leaf)
        seal = house.pair(both, both)
        first, second = (0, 1, (leaf, both)), (3, 1, (leaf, both))
        self.assertEqual(comes_to(house, 2, (first, second)), seal)
        self.assertIsNone(comes_to(house, 2, (first, (3, 1, (leaf, house.pair(both, both))))))
        self.assertIsNone(comes_to(house, 2, (first, (3, 1, (both, both)))))

    def test_any_one_number_otherwise(self):
        """Of paths of the whole tree, one number put otherwise, they come to nothing, or, a word alone, elsewhere."""
        chance = random.Random(10)
        seals = [self.house.leaf(word) for word in self.words] + [self.seal]
        for turn in range(300):
            paths = [list(self.paths[k]) for k in chance.sample(range(8), chance.randint(2, 8))]
            which, place = chance.randrange(len(paths)), chance.randrange(4)
            if place < 3:
                siblings = list(paths[which][2])
                new = chance.choice([seal for seal in seals if seal != siblings[place]])
                siblings[place] = new
                paths[which][2] = tuple(siblings)
            else:
                paths[which][1] = 50
            self.assertIsNone(comes_to(self.house, 3, tuple([tuple(path) for path in paths])))


if __name__ == "__main__":
    unittest.main()
