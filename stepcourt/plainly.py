"""The plain court: it runs the case itself."""

from stepcourt.places import Places
from stepcourt.speakers import Speaker


def plainly(house, case, claimants):
    """The true claim, and those whose rules claim it at a first asking."""
    places = Places(house, case)
    rows = case[2]
    true = places.at("rows", rows)
    said = [Speaker(places, claimant[0]).asked("rows", rows)[0] for claimant in claimants]
    return (true, tuple([number for number, claim in enumerate(said) if claim == true]))
