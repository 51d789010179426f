"""Programs and terms read from their texts."""

from stepcourt.errors import NoText
from stepcourt.words import SIGNS, WIDE, is_name, number_in


def spread(row):
    """The words of a row, each bracket a word by itself.

    A blank too many beside a bracket, or one that lacks, leaves a word that is none of a text's.
    """
    return row.replace("(", "( ").replace(")", " )").split(" ")


def word_from(text):
    """The word that a text of figures tells, or None."""
    number = number_in(text)
    if number is None or number >= WIDE:
        return None
    return number


def as_term(thing):
    """A term made already as it is, one of a text, or None where that tells none."""
    if not isinstance(thing, str):
        return thing
    if is_name(thing):
        return ("cell", thing)
    word = word_from(thing)
    if word is None:
        return None
    return ("num", word)


def is_name_thing(thing):
    """Whether what stands within a bracket is a name."""
    return isinstance(thing, str) and is_name(thing)


def bracketed(things):
    """The term that a bracket holds, of texts and of terms made already, or None."""
    if len(things) != 3:
        return None
    last = as_term(things[2])
    if last is None:
        return None
    if things[0] == "at" and is_name_thing(things[1]):
        return ("at", things[1], last)
    first = as_term(things[1])
    if things[0] in SIGNS and first is not None:
        return ("op", things[0], first, last)
    return None


def terms_from(words):
    """The terms that words tell, one behind the other, or None where they tell none."""
    nest = [[]]
    for word in words:
        if word == "(":
            nest.append([])
        elif word == ")":
            made = bracketed(nest.pop())
            if made is None or len(nest) == 0:
                return None
            nest[-1].append(made)
        else:
            nest[-1].append(word)
    terms = [as_term(thing) for thing in nest[0]]
    if len(nest) > 1 or None in terms:
        return None
    return terms


def one_term(words):
    """The one term that words tell, or None."""
    terms = terms_from(words)
    if terms is None or len(terms) != 1:
        return None
    return terms[0]


def set_from(words):
    """The set that a row's words tell, or None."""
    term = one_term(words[2:])
    if term is None or not is_name(words[1]):
        return None
    return ("set", words[1], term)


def put_from(words):
    """The put that a row's words tell, or None."""
    terms = terms_from(words[2:])
    if terms is None or len(terms) != 2 or not is_name(words[1]):
        return None
    return ("put", words[1], terms[0], terms[1])


def call_from(words):
    """The call that a row's words tell, or None."""
    if len(words) != 2 or not is_name(words[1]):
        return None
    return ("call", words[1])


def statement_from(words):
    """The statement of one row that its words tell, or None."""
    if words[0] == "set":
        return set_from(words)
    if words[0] == "put":
        return put_from(words)
    if words[0] == "call":
        return call_from(words)
    return None


class Block:
    """A def, main, while or if that isn't at its end yet; first is an if's body, once its else is read."""

    def __init__(self, kind, head):
        self.kind = kind
        self.head = head
        self.body = []
        self.first = None


class Reading:
    """What the rows so far have told; each way to take a row tells whether it can stand there."""

    def __init__(self):
        self.cells = []
        self.rows = []
        self.defs = []
        self.blocks = []
        self.main = None

    def take(self, words):
        if self.main is not None:
            return False
        if self.blocks:
            return self.take_within(words)
        if words[0] == "cell":
            return self.take_cell(words)
        if len(self.cells) == 0:
            return False
        if words[0] == "row":
            return self.take_row(words)
        return self.take_begin(words)

    def take_cell(self, words):
        if self.rows or self.defs or len(words) != 3 or not is_name(words[1]):
            return False
        word = word_from(words[2])
        self.cells.append((words[1], word))
        return word is not None

    def take_row(self, words):
        if self.defs or len(words) != 3 or not is_name(words[1]):
            return False
        length = number_in(words[2])
        self.rows.append((words[1], length))
        return length is not None and length > 0

    def take_begin(self, words):
        if words == ["main"]:
            self.blocks.append(Block("main", None))
            return True
        if words[0] == "def" and len(words) == 2 and is_name(words[1]):
            self.blocks.append(Block("def", words[1]))
            return True
        return False

    def take_within(self, words):
        if words == ["end"]:
            return self.take_end()
        if words == ["else"]:
            return self.take_else()
        if words[0] == "while" or words[0] == "if":
            term = one_term(words[1:])
            self.blocks.append(Block(words[0], term))
            return term is not None
        statement = statement_from(words)
        self.blocks[-1].body.append(statement)
        return statement is not None

    def take_else(self):
        block = self.blocks[-1]
        if block.kind != "if" or block.first is not None:
            return False
        block.first = tuple(block.body)
        block.body = []
        return True

    def take_end(self):
        block = self.blocks.pop()
        body = tuple(block.body)
        if block.kind == "main":
            self.main = body
        elif block.kind == "def":
            self.defs.append((block.head, body))
        elif block.kind == "while":
            self.blocks[-1].body.append(("while", block.head, body))
        elif block.first is None:
            return False
        else:
            self.blocks[-1].body.append(("if", block.head, block.first, body))
        return True

    def made_program(self):
        return (tuple(self.cells), tuple(self.rows), tuple(self.defs), self.main)


def read_term(text):
    """The term of a text; NoText at row 0 where it is none's."""
    term = one_term(spread(text))
    if term is None:
        raise NoText(0)
    return term


def read(text):
    """The program of a text; NoText at the first row that can't stand there."""
    reading = Reading()
    rows = text.split("\n")
    for number, row in enumerate(rows):
        if not reading.take(spread(row)):
            raise NoText(number)
    if reading.main is None:
        raise NoText(len(rows))
    return reading.made_program()
