"""The referee: who is asked what, who is told off, by which word, with which paper and record."""

import pathlib
import sys
import unittest

sys.path.insert(0, str(pathlib.Path(__file__).resolve().parent))

from courting import BARE, DEEP, EMPTY, NEVER, PLAIN, TWICE
from making import stand
from stepcourt.dispute import Dispute, argued, halves, most_questions
from stepcourt.house import House
from stepcourt.layout import depth_of
from stepcourt.papers import paper_holds, paper_of
from stepcourt.places import Places
from stepcourt.speakers import Speaker
from stepcourt.trees import path_in, put_in, seal_of

# Its calls are done behind 3, 16, 29 rows.
CASE = (TWICE, (), 60, 5)


class Scene:
    """A dispute and the truth of its case; where no claims are told, one is -1 and that of the other is true."""

    def __init__(self, case=CASE, clock=0, claims=None, liar=1):
        self.house, self.case = House(), case
        self.places = Places(self.house, case)
        self.true = self.places.at("rows", case[2])
        own = (self.true, -1) if liar == 1 else (-1, self.true)
        self.dispute = Dispute(self.house, case, clock, own if claims is None else claims)

    def asked(self):
        return self.dispute.question()

    def at(self, floor, place):
        return self.places.at(floor, place)

    def say(self, *said):
        """What those asked say, late by nothing; tells the out."""
        self.dispute.say([(one, 0) for one in said])
        return self.dispute.out()

    def truly(self, other):
        """The truth from 0, another thing from 1."""
        floor, place, who = self.asked()
        return self.say(self.at(floor, place), other)

    def alike(self):
        """The truth from both."""
        floor, place, who = self.asked()
        return self.say(*[self.at(floor, place) for one in who])

    def seal_with(self, seal, k, word):
        return put_in(self.house, seal, depth_of(self.case[0]), k, word)


class Counts(unittest.TestCase):
    def test_halves(self):
        due = {0: 0, 1: 0, 2: 1, 3: 2, 4: 2, 5: 3, 8: 3, 9: 4, 16: 4, 17: 5, 20: 5, 256: 8, 257: 9, 400: 9}
        self.assertEqual({x: halves(x) for x in due}, due)
        for x in range(1, 600):
            self.assertLessEqual(x, 2 ** halves(x))
            self.assertTrue(halves(x) == 0 or 2 ** (halves(x) - 1) < x)
        self.assertEqual(halves(x=2 ** 40 + 1), 41)

    def test_most_questions(self):
        self.assertEqual(most_questions((TWICE, (), 400, 20)), 5 + 1 + 9 + 3)
        self.assertEqual(most_questions((TWICE, (), 1, 1)), 4)
        self.assertEqual(most_questions(case=(TWICE, (), 2, 3)), 2 + 1 + 1 + 3)


    def test_as_many_questions_as_told(self):
        scene = Scene((PLAIN, (), 4, 2), claims=(-1, -2))
        scene.say((3, -3), (4, -4))
        scene.say(-5)
        scene.say(-6, -6)
        scene.say(-7, -7)
        for turn in range(3):
            self.assertIsNone(scene.dispute.out())
            scene.say(-8, -9)
        self.assertIsNotNone(scene.dispute.out())
        self.assertEqual(len(scene.dispute.record()) - 2, most_questions(scene.case))


class Begin(unittest.TestCase):
    def test_kinds_and_names(self):
        house = House()
        dispute = Dispute(house=house, case=CASE, clock=3, claims=(5, -1))
        self.assertEqual(dispute.question(), ("calls", 2, (0, 1)))
        self.assertIsNone(dispute.out())
        self.assertEqual(dispute.opened(), 0)
        self.assertEqual(dispute.record(), (("claims", 5, -1),))
        dispute.say(answers=((None, 0), (None, 0)))
        self.assertIsNone(dispute.question())
        self.assertEqual(dispute.out(), ((0, 1), ("silent", "silent"), None))

    def test_asked_again_the_same_is_told(self):
        scene = Scene()
        for turn in range(2):
            self.assertEqual(scene.asked(), ("calls", 2, (0, 1)))
            self.assertEqual(scene.dispute.record(), (("claims", scene.true, -1),))
            self.assertIsNone(scene.dispute.out())

    def test_what_is_handed_in_and_told_is_let_be(self):
        scene = Scene()
        answers = [(scene.at("calls", 2), 0), ((4, 5), 0)]
        scene.dispute.say(answers)
        told = scene.dispute.record()
        self.assertEqual(answers, [(scene.at("calls", 2), 0), ((4, 5), 0)])
        answers.clear()
        self.assertEqual(scene.dispute.record(), told)
        self.assertEqual(told[1][4], ((scene.at("calls", 2), 0), ((4, 5), 0)))

    def test_few_calls_and_rows(self):
        for case, question in (
            ((PLAIN, (), 1, 1), ("deeds", (0, 4), (0, 1))), ((PLAIN, (), 2, 1), ("rows", 1, (0, 1))),
            ((PLAIN, (), 3, 1), ("rows", 1, (0, 1))), ((PLAIN, (), 1, 2), ("calls", 1, (0, 1))),
            ((PLAIN, (), 1, 3), ("calls", 1, (0, 1))), ((PLAIN, (), 400, 1), ("rows", 200, (0, 1))),
            ((PLAIN, (), 400, 20), ("calls", 10, (0, 1))),
        ):
            self.assertEqual(Scene(case).asked(), question)


class Calls(unittest.TestCase):
    def test_alike_is_low_and_unlike_high(self):
        scene = Scene((TWICE, (), 400, 20))
        asked = []
        for turn in (True, False, True, False):
            floor, place, who = scene.asked()
            asked.append(place)
            true = scene.at(floor, place)
            scene.say(true, true if turn else (true[0], -1))
        # 0 to 20, 10 to 20, 10 to 15, 12 to 15, 12 to 13.
        self.assertEqual(asked, [10, 15, 12, 13])

    def test_unlike_in_rows_alone_is_unlike(self):
        scene = Scene()
        true = scene.at("calls", 2)
        scene.say(true, (true[0] + 1, true[1]))
        self.assertEqual(scene.asked(), ("calls", 1, (0, 1)))

    def test_both_may_lie_alike(self):
        scene = Scene(claims=(-1, -2))
        scene.say((7, -5), (7, -5))
        self.assertEqual(scene.asked(), ("calls", 3, (0, 1)))
        scene.say((8, -5), (8, -5))
        self.assertEqual(scene.asked(), ("calls", 4, (0, 1)))


class Form(unittest.TestCase):
    def out_for(self, said, clock=0):
        scene = Scene(clock=clock)
        return scene.truly(said)

    def test_silent(self):
        self.assertEqual(self.out_for(None), ((1,), ("silent",), None))

    def test_a_number_where_a_pair_is_due(self):
        for number in (0, 16, -1, 10 ** 17):
            self.assertEqual(self.out_for(number), ((1,), ("form",), None))

    def test_neither_fewer_nor_more_than_two_numbers(self):
        for said in ((), (16,), (16, 3, 4), (16, None), (None, 3)):
            self.assertEqual(self.out_for(said), ((1,), ("form",), None))

    def test_rows_from_none_to_all(self):
        for rows in (-1, -10 ** 17, 61, 10 ** 17):
            self.assertEqual(self.out_for((rows, 3)), ((1,), ("form",), None))
        for rows in (0, 1, 59, 60):
            self.assertIsNone(self.out_for((rows, -3)))

    def test_rows_fewer_than_those_at_low(self):
        form, twice = ((1,), ("form",), None), ((1,), ("twice",), None)
        for rows, out in ((17, None), (16, twice), (15, form), (0, form)):
            scene = Scene()
            scene.alike()
            self.assertEqual(scene.asked(), ("calls", 3, (0, 1)))
            self.assertEqual(scene.truly((rows, -3)), out)

    def test_rows_more_than_ones_own_at_high(self):
        for rows, out in ((20, None), (21, ((1,), ("form",), None)), (60, ((1,), ("form",), None))):
            scene = Scene()
            scene.truly((20, -3))
            self.assertEqual(scene.asked(), ("calls", 1, (0, 1)))
            self.assertEqual(scene.truly((rows, -4)), out)
        for rows, out in ((16, None), (17, ((0,), ("form",), None))):
            scene = Scene()
            scene.truly((20, -3))
            self.assertEqual(scene.say((rows, 3), (18, 3)), out)

    def test_a_pair_where_a_number_is_due(self):
        scene = Scene((TWICE, (), 60, 1))
        self.assertEqual(scene.asked()[0], "rows")
        self.assertEqual(scene.truly((3, 4)), ((1,), ("form",), None))
        scene = Scene((TWICE, (), 1, 1))
        self.assertEqual(scene.asked()[0], "deeds")
        self.assertEqual(scene.say((3, 4), -7), ((0,), ("form",), None))

    def test_truths_are_no_numbers(self):
        self.assertEqual(self.out_for((True, 3)), ((1,), ("form",), None))
        scene = Scene((TWICE, (), 60, 1))
        self.assertEqual(scene.truly(False), ((1,), ("form",), None))

    def test_silent_on_each_floor(self):
        for case in ((TWICE, (), 60, 1), (TWICE, (), 1, 1)):
            self.assertEqual(Scene(case).truly(None), ((1,), ("silent",), None))
            self.assertEqual(Scene(case).say(None, None), ((0, 1), ("silent", "silent"), None))

    def test_any_number_will_do(self):
        for number in NEVER:
            scene = Scene((TWICE, (), 60, 1))
            self.assertIsNone(scene.truly(number))
            self.assertEqual(scene.asked(), ("rows", 15, (0, 1)))


class Late(unittest.TestCase):
    def test_clock_nought(self):
        scene = Scene(clock=0)
        scene.dispute.say([(scene.at("calls", 2), 0), ((16, -1), 1)])
        self.assertEqual(scene.dispute.out(), ((1,), ("late",), None))

    def test_just_the_clock_and_one_more(self):
        for last, out in ((3, None), (4, ((0,), ("late",), None))):
            scene = Scene(clock=5)
            scene.dispute.say([(scene.at("calls", 2), 2), (scene.at("calls", 2), 5)])
            self.assertIsNone(scene.dispute.out())
            scene.dispute.say([(scene.at("calls", 3), last), ((29, -1), 0)])
            self.assertEqual(scene.dispute.out(), out)

    def test_over_all_floors_and_of_one_alone(self):
        scene = Scene(clock=2)
        scene.dispute.say([(scene.at("calls", 2), 0), ((10, -1), 2)])
        scene.dispute.say([(scene.at("calls", 1), 0), (scene.at("calls", 1), 0)])
        self.assertEqual(scene.asked(), ("rows", 10, (0,)))
        scene.dispute.say([(scene.at("rows", 10), 2)])
        self.assertEqual(scene.asked(), ("rows", 6, (0, 1)))
        scene.dispute.say([(scene.at("rows", 6), 1), (-1, 1)])
        self.assertEqual(scene.dispute.out(), ((0, 1), ("late", "late"), None))

    def test_one_alone_that_is_late(self):
        scene = Scene(clock=2)
        scene.truly((10, -1))
        scene.alike()
        scene.dispute.say([(scene.at("rows", 10), 3)])
        self.assertEqual(scene.dispute.out(), ((0,), ("late",), None))

    def test_the_first_word_of_several(self):
        for said, word in ((None, "silent"), (5, "form"), ((61, 2), "form"), ((16, 2), "late")):
            scene = Scene(clock=1)
            scene.dispute.say([(scene.at("calls", 2), 1), (said, 2)])
            self.assertEqual(scene.dispute.out(), ((1,), (word,), None))

    def test_both_by_unlike_words(self):
        answers = {"silent": (None, 0), "form": (7, 0), "late": ((4, 4), 9)}
        for one in answers:
            for other in answers:
                scene = Scene(clock=8)
                scene.dispute.say((answers[one], answers[other]))
                self.assertEqual(scene.dispute.out(), ((0, 1), (one, other), None))
                self.assertIsNone(scene.asked())


class UnlikeRows(unittest.TestCase):
    """Both alike at call 1, behind 3 rows; at call 2 the truth is behind 16."""

    def parted(self, other, first=1):
        """A scene in which first says at call 2 other rows with another seal, None being the true one there."""
        scene = Scene(liar=first)
        rows, seal = other
        said = [scene.at("calls", 2), (rows, scene.at("rows", rows) if seal is None else seal)]
        scene.say(*(said if first == 1 else said[::-1]))
        if scene.asked() is not None:
            scene.alike()
        return scene

    def test_the_other_is_asked_at_the_lesser_ones_rows(self):
        self.assertEqual(self.parted((10, -1)).asked(), ("rows", 10, (0,)))
        self.assertEqual(self.parted((10, -1), first=0).asked(), ("rows", 10, (1,)))
        self.assertEqual(self.parted((20, -1)).asked(), ("rows", 16, (1,)))
        self.assertEqual(self.parted((20, -1), first=0).asked(), ("rows", 16, (0,)))
        self.assertEqual(self.parted((4, -1)).asked(), ("rows", 4, (0,)))

    def test_one_alone_has_no_form(self):
        for said, word in ((None, "silent"), ((16, 3), "form")):
            self.assertEqual(self.parted((20, -1)).say(said), ((1,), (word,), None))
            self.assertEqual(self.parted((20, -1), first=0).say(said), ((0,), (word,), None))

    def test_unlike_there_goes_on_with_rows(self):
        scene = self.parted((10, -1))
        self.assertIsNone(scene.alike())
        self.assertEqual(scene.asked(), ("rows", 6, (0, 1)))
        scene = self.parted((20, -1))
        self.assertIsNone(scene.say(-7))
        self.assertEqual(scene.asked(), ("rows", 9, (0, 1)))
        scene = self.parted((4, -1))
        self.assertIsNone(scene.alike())
        self.assertEqual(scene.asked(), ("deeds", (3, 4), (0, 1)))

    def test_whose_seal_is_whose_at_the_lesser_ones_rows(self):
        # Right behind row 3 they part at row 4, where the lesser one said -1, and the other is asked: the deeds of
        # row 3 are true but for the last.
        for first, out in ((1, (1,)), (0, (0,))):
            scene = self.parted((4, -1), first)
            scene.alike()
            for turn in range(3):
                scene.alike()
            self.assertEqual(scene.dispute.out()[:2], (out, ("deed",)))
            self.assertEqual(scene.dispute.out()[2], paper_of(scene.house, CASE, scene.at("deeds", (3, 7))))

    def test_alike_there_and_enough_calls(self):
        # Behind 16 rows two calls are done: who said 20 is told off.
        self.assertEqual(self.parted((20, -1)).alike(), ((1,), ("count",), None))
        self.assertEqual(self.parted((20, -1), first=0).alike(), ((0,), ("count",), None))

    def test_alike_there_and_too_few_calls(self):
        # Behind 10 rows one call is done: who said 10 is told off.
        for rows in (4, 10, 15):
            for first in (0, 1):
                scene = self.parted((rows, None), first)
                self.assertEqual(scene.asked(), ("rows", rows, (1 - first,)))
                scene.alike()
                self.assertEqual(scene.dispute.out(), ((first,), ("count",), None))
                self.assertEqual(scene.dispute.opened(), 1)

    def test_just_as_many_calls_and_more(self):
        for calls, out in ((0, 1), (1, 1), (2, 0), (3, 0), (2 ** 32 - 1, 0)):
            scene = Scene(claims=(-1, -2))
            seal = scene.seal_with(scene.at("rows", 10), 4, calls)
            scene.say((12, -9), (10, seal))
            scene.alike()
            self.assertEqual(scene.asked(), ("rows", 10, (0,)))
            self.assertEqual(scene.say(seal), ((out,), ("count",), None))

    def test_a_closed_one(self):
        for seal in NEVER:
            scene = Scene(claims=(-1, -2))
            scene.say((12, -9), (10, seal))
            scene.alike()
            self.assertEqual(scene.say(seal), ((0, 1), ("closed", "closed"), None))
            self.assertEqual(scene.dispute.opened(), 0)

    def test_a_tree_of_another_depth_is_closed(self):
        scene = Scene(claims=(-1, -2))
        for make in (lambda: scene.house.leaf(4), lambda: scene.house.pair(scene.true, scene.true)):
            scene = Scene(claims=(-1, -2))
            seal = make()
            scene.say((12, -9), (10, seal))
            scene.alike()
            self.assertEqual(scene.say(seal), ((0, 1), ("closed", "closed"), None))

    def test_the_lesser_ones_rows_are_those_at_low(self):
        # Behind 3 rows is call 1, agreed, so call 2 can't have another seal there.
        for seal in (-1, 10 ** 12):
            self.assertEqual(self.parted((3, seal)).dispute.out(), ((1,), ("twice",), None))
            self.assertEqual(self.parted((3, seal), first=0).dispute.out(), ((0,), ("twice",), None))

    def test_at_low_with_its_seal(self):
        for first in (0, 1):
            scene = self.parted((3, None), first)
            self.assertEqual(scene.dispute.out(), ((first,), ("count",), None))
            self.assertEqual(scene.dispute.opened(), 1)

    def test_at_low_with_its_seal_and_enough_calls(self):
        for calls, out in ((1, 1), (2, 0), (7, 0)):
            scene = Scene(claims=(-1, -2))
            seal = scene.seal_with(scene.at("rows", 3), 4, calls)
            scene.say((12, -9), (3, seal))
            scene.say((3, seal), (3, seal))
            self.assertEqual(scene.dispute.out(), ((out,), ("count",), None))

    def test_at_low_with_its_seal_that_is_closed(self):
        scene = Scene(claims=(-1, -2))
        scene.say((12, -9), (3, -4))
        self.assertEqual(scene.say((3, -4), (3, -4)), ((0, 1), ("closed", "closed"), None))

    def test_at_call_nought(self):
        # Call 1 behind no row: agreed is the begin, where no call is done.
        for seal, word in ((None, "count"), (-1, "twice")):
            scene = Scene()
            scene.truly((0, scene.at("rows", 0) if seal is None else seal))
            scene.truly((0, scene.at("rows", 0) if seal is None else seal))
            self.assertEqual(scene.dispute.out(), ((1,), (word,), None))


class AlikeRows(unittest.TestCase):
    def test_at_those_of_low(self):
        # Behind 60 rows there are 3 calls: call 4 and call 5 are both behind 60.
        scene = Scene()
        for turn in range(3):
            scene.alike()
        self.assertEqual(scene.dispute.out(), ((1,), ("twice",), None))
        scene = Scene(liar=0)
        for turn in range(3):
            scene.alike()
        self.assertEqual(scene.dispute.out(), ((0,), ("twice",), None))

    def test_both(self):
        scene = Scene(claims=(-1, -2))
        for turn in range(3):
            scene.say((60, -3), (60, -3))
        self.assertEqual(scene.dispute.out(), ((0, 1), ("twice", "twice"), None))

    def test_at_a_call_ahead_of_the_last(self):
        scene = Scene(claims=(-1, -2))
        scene.say((9, -5), (9, -6))
        self.assertEqual(scene.say((9, -6), (9, -6)), ((0,), ("twice",), None))
        scene = Scene(claims=(-1, -2))
        scene.say((9, -5), (9, -6))
        self.assertEqual(scene.say((9, -7), (9, -7)), ((0, 1), ("twice", "twice"), None))
        scene = Scene(claims=(-1, -2))
        scene.say((0, -5), (0, scene.at("rows", 0)))
        scene.say((0, -5), (0, scene.at("rows", 0)))
        self.assertEqual(scene.dispute.out(), ((0,), ("twice",), None))

    def test_more_than_those_of_low(self):
        scene = Scene()
        scene.truly((16, -1))
        scene.alike()
        self.assertEqual(scene.asked(), ("rows", 9, (0, 1)))
        self.assertIsNone(scene.truly(-1))
        self.assertEqual(scene.asked(), ("rows", 6, (0, 1)))


class Rows(unittest.TestCase):
    def test_halves_from_low_to_high(self):
        scene = Scene((TWICE, (), 60, 1))
        asked = []
        for alike in (True, False, False, True, True, False):
            asked.append(scene.asked())
            scene.alike() if alike else scene.truly(-2)
        places = [30, 45, 37, 33, 35, 36]
        self.assertEqual(asked, [("rows", row, (0, 1)) for row in places])
        self.assertEqual(scene.asked(), ("deeds", (35, 4), (0, 1)))

    def test_ends_of_rows(self):
        scene = Scene((TWICE, (), 2, 1))
        self.assertEqual(scene.asked(), ("rows", 1, (0, 1)))
        scene.alike()
        self.assertEqual(scene.asked(), ("deeds", (1, 4), (0, 1)))
        scene = Scene((TWICE, (), 2, 1))
        scene.truly(-2)
        self.assertEqual(scene.asked(), ("deeds", (0, 4), (0, 1)))


class Deeds(unittest.TestCase):
    def at_deed(self, p, first=1):
        """A scene of one row whose two part at deed p, one of them saying -1."""
        scene = Scene((PLAIN, (), 1, 1), liar=first)
        while scene.asked() is not None:
            place = scene.asked()[1]
            said = [scene.at("deeds", place), scene.at("deeds", place) if place[1] <= p else -1]
            scene.say(*(said if first == 1 else said[::-1]))
        return scene

    def test_each_deed(self):
        for p in range(8):
            for first in (0, 1):
                scene = self.at_deed(p, first)
                who, words, paper = scene.dispute.out()
                self.assertEqual((who, words), ((first,), ("deed",)))
                self.assertEqual(paper[0], scene.at("deeds", (0, p)))
                self.assertEqual(paper[2], scene.at("deeds", (0, p + 1)))
                self.assertEqual(paper, paper_of(scene.house, scene.case, paper[0]))
                self.assertTrue(paper_holds(scene.house, scene.case, paper))
                self.assertEqual(scene.dispute.opened(), len(paper[1]))
                self.assertEqual(len(scene.dispute.record()), 5)

    def test_the_places_asked(self):
        due = {0: [4, 2, 1], 1: [4, 2, 1], 3: [4, 2, 3], 4: [4, 6, 5], 6: [4, 6, 7], 7: [4, 6, 7]}
        for p, deeds in due.items():
            record = self.at_deed(p).dispute.record()
            self.assertEqual([row[1:4] for row in record[1:-1]], [("deeds", (0, deed), (0, 1)) for deed in deeds])

    def test_words_opened(self):
        # num: deed 0 opens 0, 1, the top and a word of the room, deed 1 the top, deed 7 left, the others none more.
        self.assertEqual([self.at_deed(p).dispute.opened() for p in range(8)], [4, 3, 2, 2, 2, 2, 2, 3])

    def test_both(self):
        scene = Scene((PLAIN, (), 1, 1), claims=(-1, -2))
        for turn in range(3):
            scene.say(-3, -4)
        who, words, paper = scene.dispute.out()
        self.assertEqual((who, words), ((0, 1), ("deed", "deed")))
        self.assertEqual(paper, paper_of(scene.house, scene.case, scene.at("rows", 0)))

    def test_an_agreed_seal_that_is_closed(self):
        for seal in NEVER:
            scene = Scene((PLAIN, (), 1, 1))
            for turn in range(3):
                scene.say(seal, seal)
            self.assertEqual(scene.dispute.out(), ((0, 1), ("closed", "closed"), None))
            self.assertEqual(scene.dispute.opened(), 0)

    def test_words_opened_up_to_a_closed_one(self):
        scene = Scene((PLAIN, (), 1, 1))
        house = scene.house
        words = [house.leaf(word) for word in stand(PLAIN, boxes=(1,), deed=1)]
        words[2] = words[3] = seal_of(house, (1, 2))
        while len(words) > 1:
            words = [house.pair(one, other) for one, other in zip(words[::2], words[1::2])]
        for turn in range(3):
            scene.say(words[0], words[0])
        self.assertEqual(scene.dispute.out(), ((0, 1), ("closed", "closed"), None))
        self.assertEqual(scene.dispute.opened(), 2)

    def test_a_deed_that_cant_be_done(self):
        for parts in ({"row": 9}, {"deed": 8}, {"top": 8}, {"row": 1, "deed": 2}):
            scene = Scene((PLAIN, (), 1, 1))
            seal = seal_of(scene.house, stand(PLAIN, boxes=(1,), **parts))
            for turn in range(3):
                scene.say(seal, seal)
            self.assertEqual(scene.dispute.out(), ((0, 1), ("closed", "closed"), None))

    def test_an_agreed_stand_that_is_not_the_true_one(self):
        # The deed is the next one at the seal that both have, whatever that says.
        scene = Scene((PLAIN, (), 1, 1))
        seal = seal_of(scene.house, stand(PLAIN, boxes=(5,), row=1, room=(8,)))
        due = seal_of(scene.house, stand(PLAIN, boxes=(8,), row=1, deed=1, room=(8,)))
        scene.say(seal, seal)
        scene.say(seal, seal)
        scene.say(due, seal)
        who, words, paper = scene.dispute.out()
        self.assertEqual((who, words), ((1,), ("deed",)))
        self.assertEqual((paper[0], paper[2]), (seal, due))
        path = (6,) + path_in(scene.house, seal, depth_of(PLAIN), 6)
        self.assertIn(path, paper[1])

    def test_six_words(self):
        # Deed 1 of put opens 0, 1, left, the top, a box and the topmost word of the room.
        program = ((("a", 1),), (("r", 2),), (), (("put", "r", ("num", 1), ("num", 2)),))
        scene = Scene((program, (), 3, 1))
        for turn in range(20):
            if scene.asked() is not None:
                floor, place, who = scene.asked()
                wrong = place > 2 if floor == "rows" else place > (2, 1)
                scene.truly(-1 if wrong else scene.at(floor, place))
        self.assertEqual([path[0] for path in scene.dispute.out()[2][1]], [0, 1, 5, 2, 8, 10])
        self.assertEqual(scene.dispute.opened(), 6)


class Record(unittest.TestCase):
    def test_as_it_grows(self):
        scene = Scene(clock=9)
        record = [("claims", scene.true, -1)]
        for said, question in (
            (((scene.at("calls", 2), 1), ((10, -5), 0)), ("calls", 2, (0, 1))),
            (((scene.at("calls", 1), 0), (scene.at("calls", 1), 3)), ("calls", 1, (0, 1))),
            (((scene.at("rows", 10), 2),), ("rows", 10, (0,))),
            (((scene.at("rows", 6), 0), (None, 0)), ("rows", 6, (0, 1))),
        ):
            self.assertEqual(scene.dispute.record(), tuple(record))
            self.assertEqual(scene.asked(), question)
            scene.dispute.say(list(said))
            record.append(("asked",) + question + (said,))
        record.append(("out", (1,), ("silent",), None))
        self.assertEqual(scene.dispute.record(), tuple(record))
        self.assertIs(type(scene.dispute.record()), tuple)

    def test_with_a_paper(self):
        scene = Scene((EMPTY, (), 1, 1))
        for turn in range(3):
            scene.alike()
        self.assertEqual(scene.dispute.record()[-1], ("out",) + scene.dispute.out())
        self.assertEqual(scene.dispute.record()[-1][3][0], scene.at("deeds", (0, 7)))


class Argued(unittest.TestCase):
    def test_true_against_a_rule(self):
        for case in (CASE, (DEEP, (), 40, 7), (BARE, (), 9, 3)):
            house = House()
            places = Places(house, case)
            true = places.at("rows", case[2])
            liar = Speaker(places, (((), ("number", -4), 0),))
            dispute = Dispute(house, case, 0, (true, -4))
            out = argued(dispute=dispute, one=Speaker(places, ()), other=liar)
            self.assertEqual(out[0], (1,))
            self.assertEqual(out, dispute.out())
            self.assertIsNone(dispute.question())

    def test_who_is_asked_is_who_is_asked(self):
        house = House()
        places = Places(house, CASE)
        rules = (((("floor", "calls"), ("from", 2, 2)), ("pair", 20, -1), 0),)
        for first in (0, 1):
            speakers = [Speaker(places, ()), Speaker(places, rules)]
            claims = (places.at("rows", 60), -1)
            if first == 0:
                speakers, claims = speakers[::-1], claims[::-1]
            dispute = Dispute(house, CASE, 0, claims)
            self.assertEqual(argued(dispute, *speakers), ((first,), ("count",), None))
            self.assertEqual(dispute.record()[-2][1:4], ("rows", 16, (first,)))

    def test_one_that_was_begun(self):
        scene = Scene()
        scene.alike()
        out = argued(scene.dispute, Speaker(scene.places, ()), Speaker(scene.places, (((), ("silent",), 0),)))
        self.assertEqual(out, ((1,), ("silent",), None))
        self.assertEqual(argued(scene.dispute, None, None), out)


if __name__ == "__main__":
    unittest.main()
