"""What the tests of speakers, disputes, records, courts and webs draw from.

Cases, rules made up from a seed, speakers of other sorts, and a referee told anew by the document's words.
"""

import random

from making import Maker
from stepcourt.deeds import deed_behind, deed_writes, needed
from stepcourt.layout import Layout, begin, depth_of
from stepcourt.places import Places
from stepcourt.reader import read
from stepcourt.trees import path_in, put_in, seal_of, word_in
from stepcourt.words import GREAT

TWICE = read("cell n 3\ncell x 1\ndef f\nset x (* x 2)\nset n (- n 1)\nend\nmain\nwhile n\ncall f\nend\nend")
DEEP = read("cell n 0\ndef f\nset n (+ n 1)\ncall f\nend\nmain\ncall f\nend")
PLAIN = read("cell a 1\nmain\nset a 2\nend")
EMPTY = read("cell a 7\nmain\nend")
# The calls of main stand right behind one another, and f does nothing.
BARE = read("cell a 0\ndef f\nend\nmain\ncall f\ncall f\ncall f\nend")
ROWS = read("""cell i 5
cell s 0
row r 3
row q 2
def f
put r i (+ (at r (- i 1)) i)
put q (at r i) (* i s)
if (< i 3)
set s (+ s (at q i))
else
call g
end
set i (- i 1)
end
def g
set s (- s (= i 4))
end
main
while i
call f
end
end""")
LOOP = read("cell a 0\nmain\nwhile 1\nset a (+ a 1)\nend\nend")
PROGRAMS = (TWICE, DEEP, PLAIN, EMPTY, BARE, ROWS, LOOP)
# Numbers that no house gives.
NEVER = (0, -1, -GREAT, GREAT, GREAT + 5, 10 ** 18 - 1, 1 - 10 ** 18)

CASES = (
    (TWICE, (), 60, 5), (TWICE, (), 400, 4), (TWICE, (), 20, 1), (TWICE, (7,), 100, 8), (TWICE, (2, 9), 13, 2),
    (DEEP, (), 50, 8), (DEEP, (), 100, 20), (DEEP, (3,), 7, 3), (PLAIN, (), 1, 1), (PLAIN, (), 2, 1),
    (PLAIN, (), 9, 5), (EMPTY, (), 1, 1), (EMPTY, (), 3, 2), (EMPTY, (), 400, 20), (BARE, (), 1, 1), (BARE, (), 1, 2),
    (BARE, (), 9, 4), (BARE, (), 9, 3), (BARE, (), 6, 20), (ROWS, (), 200, 12), (ROWS, (4,), 300, 20),
    (ROWS, (2, 5), 64, 3), (LOOP, (), 33, 2), (LOOP, (), 400, 1),
)


def made_case(seed):
    """A case of a made-up program."""
    maker = Maker(seed)
    chance = random.Random(seed)
    program = maker.program()
    return (program, maker.numbers(program), chance.choice((1, 2, 5, 30, 100, 400)), chance.choice((1, 2, 3, 7, 20)))


def some_seals(chance, places):
    """Seals that may be said: of the case's stands, of trees of any sort, and numbers that none gives."""
    house = places.house
    n, m = places.case[2:]
    seals = [places.at("rows", chance.randint(0, n)) for turn in range(3)]
    seals += [places.at("calls", chance.randint(0, m))[1], places.at("deeds", (chance.randrange(n), 5))]
    depth = depth_of(places.case[0])
    for k in (0, 1, 2, 4, 5, chance.randrange(2 ** depth)):
        seals.append(put_in(house, chance.choice(seals), depth, k, chance.choice((0, 1, 2, 7, 8, 9, 2 ** 32 - 1))))
    leaf = house.leaf(chance.choice((0, 1, 5)))
    seals += [leaf, house.pair(leaf, seals[0]), house.pair(seals[0], leaf), house.pair(seals[0], seals[1])]
    return seals + [chance.choice(NEVER)]


def some_says(chance, places, seals):
    n = places.case[2]
    return chance.choice((
        ("true", 0), ("true", chance.choice((-1, 1))), ("true", chance.randint(-500, 500)),
        ("number", chance.choice(seals)), ("number", chance.choice(seals)),
        ("pair", chance.randint(-1, n + 1), chance.choice(seals)), ("again",), ("silent",),
    ))


def some_tests(chance, case):
    n, m = case[2:]
    first = chance.randint(0, n)
    asked = chance.randint(1, 4)
    tests = (
        ("floor", chance.choice(("calls", "rows", "deeds"))), ("from", first, chance.randint(first, n)),
        ("from", chance.randint(0, m), n), ("asked", asked, chance.randrange(asked)), ("from", n, n),
    )
    return tuple(chance.sample(tests, chance.choice((0, 1, 1, 2, 3))))


def some_rules(chance, places):
    """Rules of every sort."""
    seals = some_seals(chance, places)
    rules = []
    for turn in range(chance.randint(1, 6)):
        late = chance.choice((0, 0, 0, 1, 2, 50))
        rules.append((some_tests(chance, places.case), some_says(chance, places, seals), late))
    return tuple(rules)


class Astray:
    """Says how a run stands that goes wrong at a drawn deed, by one word put otherwise, and then goes on by deeds."""

    def __init__(self, places, chance):
        self.house, self.case = places.house, places.case
        program, numbers, n, m = self.case
        wrong = chance.randrange(8 * n)
        now = begin(program, numbers)
        layout = Layout(program)
        self.stands = [now]
        for number in range(8 * n):
            behind = deed_behind(layout, now)
            now = now if behind is None else behind
            if number == wrong:
                k = chance.randrange(len(now))
                now = now[:k] + ((now[k] + chance.choice((1, 2))) % 2 ** 32,) + now[k + 1:]
            self.stands.append(now)

    def seal(self, number):
        return seal_of(self.house, self.stands[number])

    def claim(self):
        return self.seal(-1)

    def asked(self, floor, place):
        n, m = self.case[2:]
        if floor == "deeds":
            return (self.seal(8 * place[0] + place[1]), 0)
        if floor == "rows":
            return (self.seal(8 * place), 0)
        done = [row for row in range(n) if self.stands[8 * row][4] >= place]
        rows = n if place == m or not done else done[0]
        return ((rows, self.seal(8 * rows)), 0)


class Over(Exception):
    """A dispute that is over, with those told off and their words, and the paper."""

    def __init__(self, told, paper=None):
        super().__init__()
        self.out = (tuple([one for one, word in told]), tuple([word for one, word in told]), paper)


class Referee:
    """The document's points 21 to 24 in their order; answers(floor, place, who) tells what those asked say."""

    def __init__(self, house, case, clock, claims, answers):
        self.house, self.case, self.clock, self.answers = house, case, clock, answers
        self.record = [("claims",) + tuple(claims)]
        self.late = [0, 0]
        self.opened = 0
        try:
            self.calls(claims)
        except Over as over:
            self.out = over.out
            self.record.append(("out",) + over.out)

    def ask(self, floor, place, who, fits):
        answers = tuple(self.answers(floor, place, who))
        self.record.append(("asked", floor, place, who, answers))
        told = []
        for one, (said, late) in zip(who, answers):
            self.late[one] += late
            if said is None:
                told.append((one, "silent"))
            elif not fits(one, said):
                told.append((one, "form"))
            elif self.late[one] > self.clock:
                told.append((one, "late"))
        if told:
            raise Over(told)
        return [said for said, late in answers]

    def calls(self, claims):
        program, numbers, n, m = self.case
        low, (a, x) = 0, (0, seal_of(self.house, begin(program, numbers)))
        high, own = m, [(n, claims[0]), (n, claims[1])]
        while high > low + 1:
            middle = (low + high) // 2
            one, other = self.ask("calls", middle, (0, 1), lambda who, said: (
                type(said) is tuple and a <= said[0] <= own[who][0]))
            if one == other:
                low, (a, x) = middle, one
            else:
                high, own = middle, [one, other]
        (r0, s0), (r1, s1) = own
        if r0 == r1 == a:
            raise Over([(who, "twice") for who in (0, 1) if own[who][1] != x])
        if r0 == r1:
            self.rows(a, x, r0, [s0, s1])
        lesser, other = (0, 1) if r0 < r1 else (1, 0)
        t, s = own[lesser]
        if t == a and s != x:
            raise Over([(lesser, "twice")])
        if t != a:
            said = self.ask("rows", t, (other,), lambda who, said: type(said) is int)[0]
            if said != s:
                self.rows(a, x, t, [s, said] if lesser == 0 else [said, s])
        done = word_in(self.house, s, depth_of(program), 4)
        if done is None:
            raise Over([(0, "closed"), (1, "closed")])
        self.opened += 1
        raise Over([(other if done >= high else lesser, "count")])

    def halve(self, low, agreed, high, own, asked):
        while high > low + 1:
            middle = (low + high) // 2
            floor, place = asked(middle)
            one, other = self.ask(floor, place, (0, 1), lambda who, said: type(said) is int)
            if one == other:
                low, agreed = middle, one
            else:
                high, own = middle, [one, other]
        return low, agreed, own

    def rows(self, a, x, t, seals):
        a, x, seals = self.halve(a, x, t, seals, lambda row: ("rows", row))
        p, x, seals = self.halve(0, x, 8, seals, lambda deed: ("deeds", (a, deed)))
        program = self.case[0]
        depth = depth_of(program)
        known, paths = {}, []
        while needed(program, known) is not None:
            k = needed(program, known)
            path = path_in(self.house, x, depth, k)
            if path is None:
                raise Over([(0, "closed"), (1, "closed")])
            self.opened += 1
            known[k] = path[0]
            paths.append((k,) + path)
        writes = deed_writes(program, known)
        if writes is None:
            raise Over([(0, "closed"), (1, "closed")])
        due = x
        for k, word in writes.items():
            due = put_in(self.house, due, depth, k, word)
        raise Over([(who, "deed") for who in (0, 1) if seals[who] != due], (x, tuple(paths), due))


def claim_of(speaker, case):
    """What a speaker says at row n, or None where that is no claim."""
    said = speaker.asked("rows", case[2])[0]
    return said if type(said) is int else None


def true_places(house, case):
    places = Places(house, case)
    return places, places.at("rows", case[2])
