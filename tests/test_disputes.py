"""Many disputes, made up from fixed seeds, held against a referee told anew and against what the document promises."""

import pathlib
import random
import sys
import unittest

sys.path.insert(0, str(pathlib.Path(__file__).resolve().parent))

from courting import CASES, Astray, Referee, made_case, some_rules, some_seals, true_places
from stepcourt.dispute import Dispute, argued, most_questions
from stepcourt.house import House
from stepcourt.papers import paper_holds
from stepcourt.records import record_holds
from stepcourt.speakers import Speaker


class Disputes(unittest.TestCase):
    def setUp(self):
        self.words = {}

    def hold(self, house, case, clock, claims, made):
        """Has the speakers that made tells argue twice, and holds what comes of it against the document."""
        dispute = Dispute(house, case, clock, claims)
        out = argued(dispute, *made())
        speakers = made()
        due = Referee(house, case, clock, claims, lambda floor, place, who: [
            speakers[one].asked(floor, place) for one in who])
        self.assertEqual(dispute.record(), tuple(due.record))
        self.assertEqual(out, due.out)
        self.assertEqual(dispute.opened(), due.opened)
        self.assertLessEqual(dispute.opened(), 6)
        self.assertLessEqual(len(dispute.record()) - 2, most_questions(case))
        self.assertIs(record_holds(house, case, clock, dispute.record()), True)
        who, words, paper = out
        self.assertIn(who, ((0,), (1,), (0, 1)))
        self.assertEqual(len(words), len(who))
        self.assertEqual(paper is not None, "deed" in words)
        if paper is not None:
            self.assertTrue(paper_holds(house, case, paper))
        for word in words:
            self.words[word] = self.words.get(word, 0) + 1
        return out

    def some_case(self, seed):
        return random.Random(seed).choice(CASES) if seed % 3 else made_case(seed)

    def against_truth(self, house, case, clock, true, claim, places, liar, place):
        """One who says what is true, put at a place, is never told off."""
        def made():
            both = [liar(), liar()]
            both[place] = Speaker(places, ())
            return both
        claims = [claim, claim]
        claims[place] = true
        self.assertEqual(self.hold(house, case, clock, claims, made)[0], (1 - place,))

    def test_truth_against_rules(self):
        for seed in range(300):
            chance = random.Random(seed)
            house, case = House(), self.some_case(seed)
            places, true = true_places(house, case)
            rules = some_rules(chance, places)
            claim = chance.choice([seal for seal in some_seals(chance, places) if seal != true])
            clock = chance.choice((0, 1, 3, 1000000))
            for place in (0, 1):
                self.against_truth(house, case, clock, true, claim, places, lambda: Speaker(places, rules), place)
        self.assertEqual(sorted(self.words), sorted(("silent", "form", "late", "twice", "count", "deed")))
        self.assertGreater(min(self.words.values()), 10, self.words)

    def test_truth_against_one_astray(self):
        runs = 0
        for seed in range(150):
            chance = random.Random(seed)
            house, case = House(), self.some_case(seed)
            places, true = true_places(house, case)
            liar = Astray(places, chance)
            if liar.claim() != true:
                runs += 1
                for place in (0, 1):
                    self.against_truth(house, case, 0, true, liar.claim(), places, lambda: liar, place)
        self.assertGreater(runs, 80)
        self.assertGreater(self.words["deed"], 100, self.words)

    def test_the_deed_on_which_one_went_astray(self):
        # Word 4 put otherwise may show in the count of calls; where it doesn't the deed itself is found.
        for seed in range(60):
            chance = random.Random(seed)
            house, case = House(), chance.choice(CASES)
            places, true = true_places(house, case)
            liar = Astray(places, chance)
            if liar.claim() == true:
                continue
            dispute = Dispute(house, case, 0, (true, liar.claim()))
            who, words, paper = argued(dispute, Speaker(places, ()), liar)
            if words == ("deed",):
                row, deed = [row for row in dispute.record() if row[1] == "deeds"][0][2]
                both = [(places.at("deeds", (row, p)), liar.asked("deeds", (row, p))[0]) for p in range(9)]
                parted = [p for p in range(8) if both[p][0] == both[p][1] and both[p + 1][0] != both[p + 1][1]]
                self.assertIn((paper[0], paper[2]), [(both[p][0], both[p + 1][0]) for p in parted])

    def test_two_who_go_by_rules(self):
        for seed in range(500):
            chance = random.Random(seed)
            house, case = House(), self.some_case(seed)
            places, true = true_places(house, case)
            rules = [some_rules(chance, places), some_rules(chance, places)]
            if seed % 2:
                # Who say the same for long come to the floors below.
                rules[1] = rules[0][:-1]
            seals = some_seals(chance, places)
            claims = (chance.choice(seals), chance.choice(seals))
            if claims[0] != claims[1]:
                self.hold(house, case, chance.choice((0, 2, 100)), claims, lambda: [
                    Speaker(places, rules[0]), Speaker(places, rules[1])])
        self.assertEqual(sorted(self.words), sorted(("silent", "form", "late", "twice", "count", "deed", "closed")))
        self.assertGreater(min(self.words.values()), 3, self.words)

    def test_two_who_are_astray(self):
        runs = 0
        for seed in range(60):
            chance = random.Random(seed)
            house, case = House(), self.some_case(seed)
            places, true = true_places(house, case)
            liars = (Astray(places, chance), Astray(places, chance))
            claims = (liars[0].claim(), liars[1].claim())
            if claims[0] != claims[1]:
                runs += 1
                self.hold(house, case, 0, claims, lambda: liars)
        self.assertGreater(runs, 30)

    def test_both_say_the_same_that_is_not_true(self):
        # Agreed seals of every sort come to be looked at.
        for seed in range(300):
            chance = random.Random(seed)
            house, case = House(), self.some_case(seed)
            places, true = true_places(house, case)
            seal = chance.choice(some_seals(chance, places))
            first = chance.randint(0, case[2])
            rules = (
                ((("floor", "deeds"),), ("number", seal), 0),
                ((("floor", "rows"), ("from", first, case[2])), ("number", seal), 0),
            )
            other = rules[:1] if seed % 2 else rules
            self.hold(house, case, 0, (true, -1), lambda: [Speaker(places, rules), Speaker(places, other)])
        self.assertGreater(self.words["closed"], 10, self.words)
        self.assertGreater(self.words["deed"], 10, self.words)


if __name__ == "__main__":
    unittest.main()
