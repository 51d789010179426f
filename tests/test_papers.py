"""Papers: the deed next at a seal, and when a paper of it holds."""

import pathlib
import random
import sys
import unittest

sys.path.insert(0, str(pathlib.Path(__file__).resolve().parent))

from courting import CASES, NEVER, PLAIN, ROWS, TWICE, made_case
from making import stand
from stepcourt.deeds import deed_done
from stepcourt.house import House
from stepcourt.layout import depth_of, room_at
from stepcourt.papers import paper_holds, paper_of
from stepcourt.places import Places
from stepcourt.trees import path_in, put_in, seal_of

CASE = (PLAIN, (), 4, 1)


def changes(paper, chance):
    """Papers that differ from one in one thing, each with a word for it."""
    before, paths, after = paper
    for number in (before + 1, before - 1, after, 0, -before, 10 ** 17):
        yield "before", (number, paths, after)
    for number in (after + 1, after - 1, before, 0, -after, 10 ** 17):
        yield "after", (before, paths, number)
    for place, (k, word, siblings) in enumerate(paths):
        def with_path(path):
            return (before, paths[:place] + (path,) + paths[place + 1:], after)
        for other in (k + 1, k - 1, -k - 1, k + 2 ** len(siblings), 10 ** 17):
            yield "path", with_path((other, word, siblings))
        for other in (word + 1, word - 1, word + 2 ** 32, -word - 1, 10 ** 17):
            yield "word", with_path((k, other, siblings))
        which = chance.randrange(len(siblings))
        for other in (siblings[which] + 1, siblings[which] - 1, before, 0, -3, 10 ** 17):
            yield "sibling", with_path((k, word, siblings[:which] + (other,) + siblings[which + 1:]))
        for others in (siblings[1:], siblings[:-1], siblings + (siblings[0],), (), siblings[::-1]):
            yield "siblings", with_path((k, word, others))
        yield "too few", (before, paths[:place] + paths[place + 1:], after)
        yield "twice", (before, paths[:place] + (paths[place],) + paths[place:], after)
        if place > 0:
            swapped = paths[:place - 1] + (paths[place], paths[place - 1]) + paths[place + 1:]
            yield "order", (before, swapped, after)
    yield "order", (before, paths[::-1], after)
    yield "none", (before, (), after)


class PaperOf(unittest.TestCase):
    def test_a_known_one(self):
        house = House()
        before = seal_of(house, stand(PLAIN, boxes=(1,)))
        paper = paper_of(house, CASE, before)
        after = seal_of(house, stand(PLAIN, boxes=(1,), deed=1, room=(2,), top=0))
        self.assertEqual(paper[0], before)
        self.assertEqual([path[:2] for path in paper[1]], [(0, 0), (1, 0), (2, 0), (7, 0)])
        self.assertEqual(paper[2], after)
        for k, word, siblings in paper[1]:
            self.assertEqual((word, siblings), path_in(house, before, depth_of(PLAIN), k))

    def test_kinds_and_names(self):
        house = House()
        seal = Places(house, CASE).at("rows", 0)
        paper = paper_of(house=house, case=CASE, seal=seal)
        self.assertIs(type(paper), tuple)
        self.assertIs(type(paper[1]), tuple)
        for path in paper[1]:
            self.assertEqual([type(part) for part in path], [int, int, tuple])
        self.assertIs(paper_holds(house=house, case=CASE, paper=paper), True)
        self.assertEqual(paper_of(house, CASE, seal), paper)

    def test_all_deeds_of_a_run(self):
        for case in ((ROWS, (), 120, 3), (TWICE, (), 45, 3), CASE):
            house = House()
            places = Places(house, case)
            for row in range(case[2]):
                for deed in range(8):
                    before, paths, after = paper = paper_of(house, case, places.at("deeds", (row, deed)))
                    self.assertEqual(before, places.at("deeds", (row, deed)))
                    self.assertEqual(after, places.at("deeds", (row, deed + 1)))
                    self.assertEqual([path[0] for path in paths[:2]], [0, 1])
                    self.assertLessEqual(len(paths), 6)
                    self.assertIs(paper_holds(house, case, paper), True)

    def test_numbers_never_given(self):
        house = House()
        for seal in NEVER + (1, 2, 999):
            self.assertIsNone(paper_of(house, CASE, seal))
        self.assertEqual(house.many(), 0)

    def test_trees_of_another_depth(self):
        house = House()
        seal = Places(house, CASE).at("rows", 0)
        self.assertIsNone(paper_of(house, CASE, house.leaf(0)))
        self.assertIsNone(paper_of(house, CASE, seal_of(house, (0,) * 16)))
        self.assertIsNone(paper_of(house, CASE, seal_of(house, (0,) * 64)))
        self.assertIsNone(paper_of(house, CASE, house.pair(seal, seal)))

    def test_a_deed_that_cant_be_done(self):
        house = House()
        for parts in ({"row": 3}, {"row": 2 ** 32 - 1}, {"deed": 8}, {"deed": 99}, {"top": 8}, {"top": 2 ** 32 - 1}):
            seal = seal_of(house, stand(PLAIN, boxes=(1,), **parts))
            self.assertIsNone(paper_of(house, CASE, seal), parts)
        # One less than nought.
        self.assertIsNone(paper_of(house, CASE, seal_of(house, stand(PLAIN, boxes=(1,), row=1, deed=2))))

    def test_words_that_it_doesnt_open_never_matter(self):
        house = House()
        depth = depth_of(PLAIN)
        words = stand(PLAIN, boxes=(1,))
        leaves = [house.leaf(word) for word in words]
        # In the place of its last words a tree has seals that are none of leaves.
        leaves[30] = leaves[31] = seal_of(house, (1, 2))
        while len(leaves) > 1:
            leaves = [house.pair(one, other) for one, other in zip(leaves[::2], leaves[1::2])]
        self.assertIsNone(path_in(house, leaves[0], depth, 30))
        paper = paper_of(house, CASE, leaves[0])
        self.assertEqual([path[:2] for path in paper[1]], [(0, 0), (1, 0), (2, 0), (room_at(PLAIN), 0)])
        self.assertIs(paper_holds(house, CASE, paper), True)

    def test_any_words(self):
        counts = {"told": 0, "none": 0}
        for seed in range(300):
            chance = random.Random(seed)
            case = chance.choice(CASES)
            house = House()
            words = list(Places(house, case).stand_at(chance.randint(0, case[2])))
            for turn in range(chance.randint(0, 4)):
                words[chance.choice((0, 1, 2, 3, 4, 5, 5, 6))] = chance.choice((0, 1, 2, 3, 6, 7, 8, 9, 2 ** 32 - 1))
            behind = deed_done(case[0], tuple(words))
            paper = paper_of(house, case, seal_of(house, words))
            counts["none" if paper is None else "told"] += 1
            if behind is None:
                self.assertIsNone(paper)
            else:
                self.assertEqual(paper[2], seal_of(house, behind))
                self.assertIs(paper_holds(house, case, paper), True)
        self.assertGreater(min(counts.values()), 50, counts)


class PaperHolds(unittest.TestCase):
    def test_one_thing_otherwise(self):
        told = {}
        for seed in range(40):
            chance = random.Random(seed)
            case = chance.choice(CASES) if seed % 2 else made_case(seed)
            house = House()
            places = Places(house, case)
            paper = paper_of(house, case, places.at("deeds", (chance.randrange(case[2]), chance.randrange(8))))
            for word, other in changes(paper, chance):
                if other == paper:
                    continue
                told[word] = told.get(word, 0) + 1
                self.assertIs(paper_holds(house, case, other), False, (seed, word, paper, other))
                self.assertIs(paper_holds(house, case, paper), True)
        self.assertEqual(len(told), 10, told)

    def test_a_path_too_many(self):
        house = House()
        before, paths, after = paper_of(house, CASE, Places(house, CASE).at("rows", 0))
        depth = depth_of(PLAIN)
        for k in range(2 ** depth):
            if k not in [path[0] for path in paths]:
                more = (k,) + path_in(house, before, depth, k)
                self.assertFalse(paper_holds(house, CASE, (before, paths + (more,), after)))
                self.assertFalse(paper_holds(house, CASE, (before, (more,) + paths, after)))

    def test_a_paper_of_another_stand_with_its_paths(self):
        house = House()
        places = Places(house, CASE)
        first = paper_of(house, CASE, places.at("deeds", (0, 0)))
        second = paper_of(house, CASE, places.at("deeds", (0, 1)))
        self.assertFalse(paper_holds(house, CASE, (first[0], second[1], first[2])))
        self.assertFalse(paper_holds(house, CASE, (first[0], first[1], second[2])))
        self.assertFalse(paper_holds(house, CASE, (second[0], first[1], first[2])))

    def test_another_program(self):
        house = House()
        other = (((("a", 1),), (), (), (("set", "a", ("num", 3)),)), (), 4, 1)
        paper = paper_of(house, CASE, Places(house, CASE).at("rows", 0))
        self.assertTrue(paper_holds(house, CASE, paper))
        self.assertFalse(paper_holds(house, other, paper))

    def test_a_stand_that_no_run_comes_to(self):
        # It is a paper of the machine, not of the run: any words do.
        house = House()
        words = stand(PLAIN, boxes=(9,), room=(1, 2, 3), calls=77, waits=(4,))
        paper = paper_of(house, CASE, seal_of(house, words))
        self.assertTrue(paper_holds(house, CASE, paper))

    def test_a_deed_that_cant_be_done(self):
        house = House()
        seal = seal_of(house, stand(PLAIN, boxes=(1,), deed=8))
        paths = tuple([(k,) + path_in(house, seal, depth_of(PLAIN), k) for k in (0, 1)])
        for many in (1, 2):
            for after in (seal, put_in(house, seal, depth_of(PLAIN), 1, 9)):
                self.assertFalse(paper_holds(house, CASE, (seal, paths[:many], after)))

    def test_it_is_looked_at_without_opening(self):
        class Closed(House):
            """Opens no seal but those that stand beside paths."""

            def opened(self, seal):
                if seal not in self.beside:
                    raise AssertionError(seal)
                return House.opened(self, seal)

        house = Closed()
        house.beside = range(10 ** 12)
        for case in (CASE, (ROWS, (), 100, 1)):
            before, paths, after = paper_of(house, case, Places(house, case).at("deeds", (3, 1)))
            house.beside = [sibling for path in paths for sibling in path[2]]
            self.assertNotIn(before, house.beside)
            self.assertNotIn(after, house.beside)
            self.assertTrue(paper_holds(house, case, (before, paths, after)))
            house.beside = range(10 ** 12)

    def test_any_numbers(self):
        chance = random.Random(5)
        house = House()
        paper = paper_of(house, CASE, Places(house, CASE).at("rows", 0))
        depth = depth_of(PLAIN)
        some = NEVER + (1, 2, 3, 7, house.many(), paper[0], paper[2])
        for turn in range(300):
            paths = tuple([
                (chance.choice(some), chance.choice(some), tuple([chance.choice(some) for height in range(depth)]))
                for path in range(chance.randint(0, 5))
            ])
            other = (chance.choice(some), paths, chance.choice(some))
            self.assertIs(paper_holds(house, CASE, other), False)
            self.assertIs(paper_holds(house, CASE, other), False)


if __name__ == "__main__":
    unittest.main()
