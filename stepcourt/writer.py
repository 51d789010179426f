"""Terms and programs written as their texts."""

from stepcourt.words import figures_of


def show_term(term):
    """The text of a term."""
    if term[0] == "num":
        return figures_of(term[1])
    if term[0] == "cell":
        return term[1]
    if term[0] == "at":
        row = term[1]
        place = show_term(term[2])
        return f"(at {row} {place})"
    sign = term[1]
    first = show_term(term[2])
    last = show_term(term[3])
    return f"({sign} {first} {last})"


def pieces(statement):
    """What a statement is written as: rows that are texts, and statements that are still to be written."""
    kind = statement[0]
    if kind == "while":
        return ["while " + show_term(statement[1])] + list(statement[2]) + ["end"]
    if kind == "if":
        first = ["if " + show_term(statement[1])] + list(statement[2])
        return first + ["else"] + list(statement[3]) + ["end"]
    shown = [kind, statement[1]] + [show_term(term) for term in statement[2:]]
    return [" ".join(shown)]


def body_rows(body):
    """The text's rows of a body."""
    rows = []
    left = list(body[::-1])
    while left:
        piece = left.pop()
        if isinstance(piece, str):
            rows.append(piece)
        else:
            left.extend(pieces(piece)[::-1])
    return rows


def named_rows(word, pairs):
    """The text's rows of the cells, or of the rows."""
    return [" ".join([word, pair[0], figures_of(pair[1])]) for pair in pairs]


def show(program):
    """The text of a program."""
    rows = named_rows("cell", program[0]) + named_rows("row", program[1])
    for name, body in program[2]:
        rows.append(f"def {name}")
        rows.extend(body_rows(body))
        rows.append("end")
    rows.append("main")
    rows.extend(body_rows(program[3]))
    rows.append("end")
    return "\n".join(rows)
