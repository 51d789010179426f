"""Webs: runs whose numbers are other runs' answers, settled by courts, or run plainly."""

from stepcourt.court import held
from stepcourt.house import House
from stepcourt.layout import FIRST_BOX
from stepcourt.maker import end_row
from stepcourt.places import Places
from stepcourt.written import answer_in


def leans_on(number):
    """Whether a run's number is another run's answer."""
    return isinstance(number, tuple)


def case_with(run, words):
    """The case of a run with these words in the places of other runs' answers."""
    program, numbers, rows, calls = run
    left = list(reversed(words))
    made = [left.pop() if leans_on(number) else number for number in numbers]
    return (program, tuple(made), rows, calls)


def words_for(run, stands):
    """The words of the runs that a run leans on, as those stand; None where one has no answer."""
    leaned = [stands[number[1]] for number in run[1] if leans_on(number)]
    if not all([stand is not None and stand[0] == "answer" for stand in leaned]):
        return None
    return tuple([stand[1] for stand in leaned])


def claims_held(house, run, claimants, clock):
    """The claims that stand, or None, in the courts of those with alike leans, by their leans."""
    alike = {}
    for leans, rules in claimants:
        alike.setdefault(leans, []).append((rules, 0, 0))
    claims = {}
    for leans, court in alike.items():
        claims[leans] = held(house, case_with(run, leans), clock, tuple(court))[0]
    return claims


def stands_with(house, run, claims, stands):
    """What a run stands with, or None, by the claims of its courts and what the runs ahead stand with."""
    words = words_for(run, stands)
    if words is None or claims.get(words) is None:
        return None
    return answer_in(house, case_with(run, words), claims[words])


def settled(house, web, claimants, clock, order):
    """What each run of a web stands with, or None; order is that in which the runs' courts are held."""
    claims = {}
    for number in order:
        claims[number] = claims_held(house, web[number], claimants[number], clock)
    stands = []
    for number, run in enumerate(web):
        stands.append(stands_with(house, run, claims[number], stands))
    return tuple(stands)


def answer_plainly(run, stands):
    """What a run tells when it is run by its rows, or None where one that it leans on has no answer."""
    words = words_for(run, stands)
    if words is None:
        return None
    stand = Places(House(), case_with(run, words)).stand_at(run[2])
    return ("answer", stand[FIRST_BOX]) if stand[0] == end_row(run[0]) else ("open",)


def web_plainly(web):
    """What each run of a web tells when all are run plainly."""
    stands = []
    for run in web:
        stands.append(answer_plainly(run, stands))
    return tuple(stands)
