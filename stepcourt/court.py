"""The court: many claimants of one case, put two by two until no two claims are there."""

from stepcourt.dispute import Dispute, argued, is_whole
from stepcourt.places import Places
from stepcourt.speakers import Speaker


class Court:
    """How a court stands: who is there, in the order in which they came, and who is still to come, by numbers."""

    def __init__(self, house, case, clock, claimants):
        self.house = house
        self.case = case
        self.clock = clock
        places = Places(house, case)
        self.speakers = [Speaker(places, claimant[0]) for claimant in claimants]
        self.times = [claimant[2] for claimant in claimants]
        self.purses = [claimant[1] for claimant in claimants]
        self.purse = 0
        self.to_come = list(range(len(claimants)))
        self.there = []
        self.claims = {}
        self.puttings = []

    def let_come(self, time):
        """Lets those come whose time is come."""
        coming = [number for number in self.to_come if self.times[number] <= time]
        self.to_come = [number for number in self.to_come if number not in coming]
        for number in coming:
            claim = self.speakers[number].asked("rows", self.case[2])[0]
            if is_whole(claim):
                self.claims[number] = claim
                self.there.append(number)
            else:
                self.give_to_court(number)

    def give_to_court(self, number):
        self.purse += self.purses[number]
        self.purses[number] = 0

    def give_to(self, number, other):
        self.purses[other] += self.purses[number]
        self.purses[number] = 0

    def to_put(self):
        """The first of all and the first whose claim is unlike its; None where no two claims are there."""
        unlike = [number for number in self.there if self.claims[number] != self.claims[self.there[0]]]
        return (self.there[0], unlike[0]) if unlike else None

    def put(self, one, other):
        """Puts two against one another, and lets those go out who are told off."""
        both = (one, other)
        dispute = Dispute(self.house, self.case, self.clock, (self.claims[one], self.claims[other]))
        who, words, paper = argued(dispute, self.speakers[one], self.speakers[other])
        told = dict(zip([both[place] for place in who], words))
        out = tuple(sorted(told))
        if len(out) == 2:
            self.give_to_court(one)
            self.give_to_court(other)
        else:
            self.give_to(out[0], both[1 - who[0]])
        self.there = [number for number in self.there if number not in told]
        self.puttings.append((one, other, out, tuple([told[number] for number in out])))

    def go_on(self):
        """Puts two, or lets the next ones come; tells whether it goes on."""
        two = self.to_put()
        if two is not None:
            self.put(two[0], two[1])
            self.let_come(len(self.puttings))
        elif self.to_come:
            self.let_come(min([self.times[number] for number in self.to_come]))
        else:
            return False
        return True


def held(house, case, clock, claimants):
    """The claim that stands, or None, who stands, their purses, the court's purse, and the puttings."""
    court = Court(house, case, clock, claimants)
    court.let_come(0)
    going = True
    while going:
        going = court.go_on()
    claim = court.claims[court.there[0]] if court.there else None
    return (claim, tuple(sorted(court.there)), tuple(court.purses), court.purse, court.puttings)
