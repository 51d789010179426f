"""What programs and terms are made of, in the text's order.

The walks keep what is still to do in a list of their own, so that no depth of a program is too much for them.
"""


def inner_terms(term):
    """The terms right within a term."""
    if term[0] == "at":
        return (term[2],)
    if term[0] == "op":
        return (term[2], term[3])
    return ()


def terms_in(term):
    """All terms in a term, itself first."""
    told = []
    left = [term]
    while left:
        first = left.pop()
        told.append(first)
        left.extend(inner_terms(first)[::-1])
    return told


def parts(term):
    """How many parts a term has."""
    return len(terms_in(term))


def own_terms(statement):
    """The terms right within a statement."""
    if statement[0] == "put":
        return (statement[2], statement[3])
    if statement[0] == "set":
        return (statement[2],)
    if statement[0] == "call":
        return ()
    return (statement[1],)


def inner_bodies(statement):
    """The bodies right within a statement."""
    if statement[0] == "while":
        return (statement[2],)
    if statement[0] == "if":
        return (statement[2], statement[3])
    return ()


def statements_in(body):
    """All statements in a body, each ahead of those within it."""
    told = []
    left = list(body[::-1])
    while left:
        first = left.pop()
        told.append(first)
        for inner in inner_bodies(first)[::-1]:
            left.extend(inner[::-1])
    return told


def bodies_in(program):
    """The defs' bodies in order, then the program's."""
    return [made[1] for made in program[2]] + [program[3]]


def called_in(body):
    """The called defs' names in a body."""
    return [statement[1] for statement in statements_in(body) if statement[0] == "call"]


def calls_in(program):
    """The called defs' names, by the calls' numbers."""
    names = []
    for body in bodies_in(program):
        names.extend(called_in(body))
    return tuple(names)
