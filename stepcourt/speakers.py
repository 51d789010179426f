"""Speakers: who says, by rules, how a case stands at the places that it is asked for."""

from stepcourt.words import DEEDS

# What one goes by where none of its rules holds.
TRULY = ((), ("true", 0), 0)


def holds_at(test, floor, place, askings):
    """Whether a rule's test holds at a place, behind so many askings."""
    if test[0] == "floor":
        return floor == test[1]
    if test[0] == "from":
        first = place[0] if floor == "deeds" else place
        return test[1] <= first <= test[2]
    return askings % test[1] == test[2]


def held_within(number, most):
    """The number from 0 to the most that is nearest to a number."""
    return max(0, min(number, most))


def place_beside(case, floor, place, added):
    """The place with a number added to its last number, held within the floor's places."""
    if floor == "deeds":
        return (place[0], held_within(place[1] + added, DEEDS))
    return held_within(place + added, case[3] if floor == "calls" else case[2])


class Speaker:
    """Who goes by rules; last holds what was said last on each floor."""

    def __init__(self, places, rules):
        self.places = places
        self.rules = tuple(rules)
        self.askings = 0
        self.last = {}

    def asked(self, floor, place):
        """What is said at a place, and by how much it is late."""
        tests, says, late = self.rule_at(floor, place)
        said = self.said_by(says, floor, place)
        self.askings += 1
        self.last[floor] = said
        return (said, late)

    def rule_at(self, floor, place):
        for rule in self.rules:
            if all([holds_at(test, floor, place, self.askings) for test in rule[0]]):
                return rule
        return TRULY

    def said_by(self, says, floor, place):
        if says[0] == "silent":
            return None
        if says[0] == "pair":
            return (says[1], says[2])
        if says[0] == "number":
            return (self.places.at(floor, place)[0], says[1]) if floor == "calls" else says[1]
        if says[0] == "again":
            return self.last[floor] if floor in self.last else self.places.at(floor, place)
        return self.places.at(floor, place_beside(self.places.case, floor, place, says[1]))
