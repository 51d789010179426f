"""Tuples of words, as many as a power of 2, kept as trees in a house."""


def seal_of(house, words):
    """The seal of the tree of some words."""
    seals = [house.leaf(word) for word in words]
    while len(seals) > 1:
        seals = [house.pair(one, other) for one, other in zip(seals[::2], seals[1::2])]
    return seals[0]


def path_in(house, seal, depth, k):
    """Word k of a tree and the seals beside its path, from the leaf up; None where it isn't opened."""
    siblings = []
    for height in range(depth - 1, -1, -1):
        made = house.opened(seal)
        if made is None or made[0] == "leaf":
            return None
        side = (k >> height) & 1
        seal = made[1 + side]
        siblings.append(made[2 - side])
    made = house.opened(seal)
    if made is None or made[0] == "pair":
        return None
    return (made[1], tuple(siblings[::-1]))


def word_in(house, seal, depth, k):
    """Word k of a tree; None where it isn't opened."""
    path = path_in(house, seal, depth, k)
    return None if path is None else path[0]


def pair_above(house, place, seal, sibling):
    """The seal of the pair right above a place, whose own seal and sibling these are."""
    return house.pair(seal, sibling) if place & 1 == 0 else house.pair(sibling, seal)


def put_in(house, seal, depth, k, word):
    """The seal of a tree with its word k put otherwise; None where that isn't opened."""
    path = path_in(house, seal, depth, k)
    if path is None:
        return None
    behind = house.leaf(word)
    for height, sibling in enumerate(path[1]):
        behind = pair_above(house, k >> height, behind, sibling)
    return behind
