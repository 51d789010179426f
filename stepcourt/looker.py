"""Programs looked at: whether they are let by."""

from stepcourt.errors import NoProgram
from stepcourt.forms import bodies_in, own_terms, statements_in, terms_in


def names_once(part):
    """The names of the cells, the rows or the defs, each as a key; refused where one has them twice."""
    names = {}
    for named in part:
        if named[0] in names:
            raise NoProgram("twice", named[0])
        names[named[0]] = True
    return names


def look_up(name, names):
    """Refuses a name that isn't there."""
    if name not in names:
        raise NoProgram("unknown", name)


def look_at_term(term, cells, rows):
    """Refuses the first cell or row of a term that isn't there."""
    for part in terms_in(term):
        if part[0] == "cell":
            look_up(part[1], cells)
        elif part[0] == "at":
            look_up(part[1], rows)


def look_at_statement(statement, cells, rows, defs):
    """Refuses the first name of a statement that isn't there, those of the statements within it left out."""
    if statement[0] == "set":
        look_up(statement[1], cells)
    elif statement[0] == "put":
        look_up(statement[1], rows)
    elif statement[0] == "call":
        look_up(statement[1], defs)
    for term in own_terms(statement):
        look_at_term(term, cells, rows)


def look(program):
    """True for a program that is let by; NoProgram with the first thing that is amiss."""
    cells = names_once(program[0])
    rows = names_once(program[1])
    defs = names_once(program[2])
    for body in bodies_in(program):
        for statement in statements_in(body):
            look_at_statement(statement, cells, rows, defs)
    return True
