"""The bounds that the program goes by, names, numbers in figures, doublings, and the value of an op."""

WIDE = 4294967296
GREAT = 1000000000000
ROOM = 8
WAITS = 6
DEEDS = 8

SIGNS = ("+", "-", "*", "<", "=")
LETTERS = "abcdefghijklmnopqrstuvwxyz"
FIGURES = "0123456789"
LONGEST_NAME = 6
TAKEN = ("cell", "row", "def", "main", "set", "put", "while", "if", "else", "call", "end", "at")


def is_name(text):
    """Whether a text is a name."""
    if len(text) < 1 or len(text) > LONGEST_NAME or text in TAKEN:
        return False
    return all([sign in LETTERS for sign in text])


def value(sign, a, b):
    """The word that an op makes of the words a and b."""
    if sign == "+":
        return (a + b) % WIDE
    if sign == "-":
        return (a - b) % WIDE
    if sign == "*":
        return (a * b) % WIDE
    if sign == "<":
        return 1 if a < b else 0
    return 1 if a == b else 0


def number_in(text):
    """The number that a text of figures tells, without a nought ahead of others; else None."""
    if text == "" or (text[0] == "0" and text != "0"):
        return None
    # Figure by figure, for Python's own int refuses some thousand of them, which a text may have.
    number = 0
    for sign in text:
        if sign not in FIGURES:
            return None
        number = 10 * number + FIGURES.index(sign)
    return number


def figures_of(number):
    """The figures of a number from 0 on."""
    # Figure by figure, likewise: Python's own str refuses a number of some thousand figures.
    figures = []
    while number > 9:
        figures.append(FIGURES[number % 10])
        number = number // 10
    figures.append(FIGURES[number])
    return "".join(reversed(figures))


def doublings(number):
    """The least number of times that 1 is doubled until it isn't less than a number."""
    many = 0
    size = 1
    while size < number:
        size = 2 * size
        many += 1
    return many
