"""Opened paths of a tree, and the seal that they come to.

A place of the tree is (height, number): leaf k is (0, k), the pair above it (1, k >> 1), and so on up.
"""

from stepcourt.trees import pair_above
from stepcourt.words import WIDE


def is_path(house, depth, path):
    """Whether a path could be one of a tree of this depth in the house."""
    k, word, siblings = path
    if k < 0 or k >> depth > 0 or word < 0 or word >= WIDE or len(siblings) != depth:
        return False
    return all([house.opened(sibling) is not None for sibling in siblings])


def places_of(house, path):
    """All places on a path and beside it, each with its seal, the pairs made from the leaf up."""
    k, word, siblings = path
    seal = house.leaf(word)
    told = [((0, k), seal)]
    for height, sibling in enumerate(siblings):
        place = k >> height
        told.append(((height, place ^ 1), sibling))
        seal = pair_above(house, place, seal, sibling)
        told.append(((height + 1, place >> 1), seal))
    return told


def comes_to(house, depth, paths):
    """The seal that opened paths come to, or None."""
    if not all([is_path(house, depth, path) for path in paths]):
        return None
    # Ahead of all else, for one k twice may well agree with itself.
    if not paths or len(set([path[0] for path in paths])) < len(paths):
        return None
    seals = {}
    for path in paths:
        for place, seal in places_of(house, path):
            if seals.setdefault(place, seal) != seal:
                return None
    return seals[(depth, 0)]


def comes_to_with(house, depth, paths, written):
    """The seal that paths that come to one come to with some of their words put otherwise."""
    seals = {}
    for path in paths:
        seals.update(dict(places_of(house, path)))
    for k, word in written.items():
        seals[(0, k)] = house.leaf(word)
        for height in range(depth):
            place = k >> height
            above = pair_above(house, place, seals[(height, place)], seals[(height, place ^ 1)])
            seals[(height + 1, place >> 1)] = above
    return seals[(depth, 0)]
