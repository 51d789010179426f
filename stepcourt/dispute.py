"""The referee: puts two against one another until one at least is told off."""

from stepcourt.layout import begin, depth_of
from stepcourt.papers import paper_from, paths_opened
from stepcourt.trees import seal_of, word_in
from stepcourt.words import DEEDS, doublings

BOTH = (0, 1)
CALLS_DONE = 4


def halves(x):
    """The least number of doublings of 1 that comes to x or more."""
    return doublings(x)


def most_questions(case):
    """How many questions a dispute asks at most."""
    return halves(case[3]) + 1 + halves(case[2]) + halves(DEEDS)


def is_whole(thing):
    """Whether something is a whole number."""
    return isinstance(thing, int) and not isinstance(thing, bool)


def is_pair(thing):
    """Whether something is a pair of whole numbers."""
    return isinstance(thing, tuple) and len(thing) == 2 and all([is_whole(part) for part in thing])


class Dispute:
    """How two with unlike claims stand.

    On its floor they agree at low, in agreed, and part at high, each with its own in parted: (rows, seal) on the
    floor calls, else a seal. On the floor deeds low and high are deeds of the next row behind so many rows.
    """

    def __init__(self, house, case, clock, claims):
        program, numbers, rows, calls = case
        self.house = house
        self.case = case
        self.clock = clock
        self.floor = "calls"
        self.low = 0
        self.agreed = (0, seal_of(house, begin(program, numbers)))
        self.high = calls
        self.parted = [(rows, claim) for claim in claims]
        self.rows = 0
        self.lates = [0, 0]
        self.asking = None
        self.ended = None
        self.words_opened = 0
        self.rows_told = [("claims", claims[0], claims[1])]
        self.go_on()

    def question(self):
        """Who is asked what next: (floor, place, who), or None when it is over."""
        return self.asking

    def out(self):
        """Who is told off, by which words, and the paper; None when it isn't over."""
        return self.ended

    def opened(self):
        """How many words the referee opened."""
        return self.words_opened

    def record(self):
        """The record so far."""
        return tuple(self.rows_told)

    def say(self, answers):
        """Takes what those asked say."""
        floor, place, who = self.asking
        said = tuple([(answer[0], answer[1]) for answer in answers])
        self.rows_told.append(("asked", floor, place, who, said))
        words = {}
        for one, answer in zip(who, said):
            word = self.word_against(one, answer)
            if word is not None:
                words[one] = word
        if words:
            self.tell_off(words, None)
        elif who == BOTH:
            self.take_middle([answer[0] for answer in said])
        else:
            self.take_alone(place, who[0], said[0][0])

    def word_against(self, one, answer):
        """The word by which one is told off at a question, or None."""
        said, late = answer
        self.lates[one] += late
        if said is None:
            return "silent"
        if not self.has_form(one, said):
            return "form"
        return "late" if self.lates[one] > self.clock else None

    def has_form(self, one, said):
        if self.asking[0] != "calls":
            return is_whole(said)
        return is_pair(said) and self.agreed[0] <= said[0] <= self.parted[one][0]

    def tell_off(self, words, paper):
        """Ends the dispute, with the words of those told off."""
        who = tuple(sorted(words))
        self.asking = None
        self.ended = (who, tuple([words[one] for one in who]), paper)
        self.rows_told.append(("out", self.ended[0], self.ended[1], self.ended[2]))

    def go_on(self):
        """Asks for the middle, or, where there is none, goes on a floor below."""
        if self.high > self.low + 1:
            middle = (self.low + self.high) // 2
            self.asking = (self.floor, (self.rows, middle) if self.floor == "deeds" else middle, BOTH)
        elif self.floor == "calls":
            self.leave_calls()
        elif self.floor == "rows":
            self.rows = self.low
            self.go_down("deeds", 0, DEEDS, self.agreed, self.parted)
        else:
            self.look_at_deed()

    def go_down(self, floor, low, high, agreed, parted):
        self.floor = floor
        self.low = low
        self.high = high
        self.agreed = agreed
        self.parted = parted
        self.go_on()

    def take_middle(self, said):
        middle = (self.low + self.high) // 2
        if said[0] == said[1]:
            self.low = middle
            self.agreed = said[0]
        else:
            self.high = middle
            self.parted = said
        self.go_on()

    def leave_calls(self):
        """Of two neighbouring calls, at the later of which they part."""
        first, seal = self.agreed
        if self.parted[0][0] == self.parted[1][0]:
            self.leave_alike(first, seal)
            return
        lesser = 0 if self.parted[0][0] < self.parted[1][0] else 1
        rows, lesser_seal = self.parted[lesser]
        if rows != first:
            self.asking = ("rows", rows, (1 - lesser,))
        elif lesser_seal != seal:
            self.tell_off({lesser: "twice"}, None)
        else:
            self.look_at_count(seal, lesser)

    def leave_alike(self, first, seal):
        """Where both tell the same rows for the later call."""
        rows = self.parted[0][0]
        seals = [told[1] for told in self.parted]
        if rows == first:
            self.tell_off(dict([(one, "twice") for one in BOTH if seals[one] != seal]), None)
        else:
            self.go_down("rows", first, rows, seal, seals)

    def take_alone(self, rows, other, said):
        """Of what the other says at the lesser one's rows."""
        lesser = 1 - other
        seals = [told[1] for told in self.parted]
        seals[other] = said
        if seals[0] == seals[1]:
            self.look_at_count(said, lesser)
        else:
            self.go_down("rows", self.agreed[0], rows, self.agreed[1], seals)

    def look_at_count(self, seal, lesser):
        """Opens how many calls are done at a seal that both have at the lesser one's rows."""
        calls = word_in(self.house, seal, depth_of(self.case[0]), CALLS_DONE)
        if calls is None:
            self.tell_off({0: "closed", 1: "closed"}, None)
            return
        self.words_opened += 1
        wrong = 1 - lesser if calls >= self.high else lesser
        self.tell_off({wrong: "count"}, None)

    def look_at_deed(self):
        """Opens the words of the deed on which they part."""
        paths = paths_opened(self.house, self.case, self.agreed)
        self.words_opened += len(paths)
        paper = paper_from(self.house, self.case, self.agreed, paths)
        if paper is None:
            self.tell_off({0: "closed", 1: "closed"}, None)
        else:
            self.tell_off(dict([(one, "deed") for one in BOTH if self.parted[one] != paper[2]]), paper)


def argued(dispute, one, other):
    """The out of a dispute, when two speakers have said all."""
    speakers = (one, other)
    question = dispute.question()
    while question is not None:
        floor, place, who = question
        dispute.say([speakers[number].asked(floor, place) for number in who])
        question = dispute.question()
    return dispute.out()
