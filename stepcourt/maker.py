"""Programs made into rows for the machine."""

from stepcourt.forms import inner_terms, own_terms, parts, statements_in


def boxes(program):
    """The first box of each row, by its name."""
    told = {}
    box = len(program[0])
    for name, length in program[1]:
        told[name] = box
        box += length
    return told


def own_many(statement):
    """How many rows a statement makes, those of the statements within it left out."""
    many = sum([parts(term) for term in own_terms(statement)])
    # A while and an if end their term with zero and a body with go.
    return many + (2 if statement[0] in ("while", "if") else 1)


def rows_many(body):
    """How many rows a body makes."""
    return sum([own_many(statement) for statement in statements_in(body)])


def end_row(program):
    """The row of end."""
    return rows_many(program[3])


def def_rows(program):
    """The first row of each def, by its name."""
    told = {}
    row = end_row(program) + 1
    for name, body in program[2]:
        told[name] = row
        row += rows_many(body) + 1
    return told


def made_rows(rows):
    """Rows as pieces that are made already."""
    return [("row", row) for row in rows]


def to_make(body):
    """Statements as pieces that are still to be made into rows."""
    return [("statement", statement) for statement in body]


class Making:
    """A code as far as it is made, and where the program's names are."""

    def __init__(self, program):
        self.cells = {}
        for box, cell in enumerate(program[0]):
            self.cells[cell[0]] = box
        self.firsts = boxes(program)
        self.lengths = dict(program[1])
        self.defs = def_rows(program)
        self.code = []

    def add_body(self, body):
        left = to_make(body)[::-1]
        while left:
            piece = left.pop()
            if piece[0] == "row":
                self.code.append(piece[1])
            else:
                left.extend(self.pieces_of(piece[1])[::-1])

    def pieces_of(self, statement):
        rows = []
        for term in own_terms(statement):
            rows.extend(self.term_rows(term))
        if statement[0] == "while":
            return self.while_pieces(rows, statement[2])
        if statement[0] == "if":
            return self.if_pieces(rows, statement[2], statement[3])
        return made_rows(rows + [self.last_row(statement[0], statement[1])])

    def while_pieces(self, rows, body):
        first = len(self.code)
        behind = first + len(rows) + 1 + rows_many(body) + 1
        return made_rows(rows + [("zero", behind)]) + to_make(body) + made_rows([("go", first)])

    def if_pieces(self, rows, body, other):
        other_first = len(self.code) + len(rows) + 1 + rows_many(body) + 1
        behind = other_first + rows_many(other)
        pieces = made_rows(rows + [("zero", other_first)]) + to_make(body)
        return pieces + made_rows([("go", behind)]) + to_make(other)

    def last_row(self, kind, name):
        if kind == "set":
            return ("set", self.cells[name])
        if kind == "put":
            return ("put", self.firsts[name], self.lengths[name])
        return ("call", self.defs[name])

    def term_rows(self, term):
        rows = []
        left = [term]
        # Told from the last row to the first: each term ahead of those within it, of these the last one first.
        while left:
            part = left.pop()
            rows.append(self.term_row(part))
            left.extend(inner_terms(part))
        return rows[::-1]

    def term_row(self, term):
        if term[0] == "num":
            return ("num", term[1])
        if term[0] == "cell":
            return ("get", self.cells[term[1]])
        if term[0] == "at":
            return ("at", self.firsts[term[1]], self.lengths[term[1]])
        return ("op", term[1])


def code_of(program):
    """The code of a program."""
    making = Making(program)
    making.add_body(program[3])
    making.code.append(("end",))
    for name, body in program[2]:
        making.add_body(body)
        making.code.append(("back",))
    return tuple(making.code)


def call_rows(program):
    """The row of each call, by its number."""
    rows = [number for number, row in enumerate(code_of(program)) if row[0] == "call"]
    end = end_row(program)
    # The code has main ahead of the defs, the calls are numbered the other way round.
    return tuple([row for row in rows if row > end] + [row for row in rows if row < end])
