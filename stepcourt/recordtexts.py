"""Records written as their texts, and read back."""

from stepcourt.errors import NoText
from stepcourt.words import figures_of, number_in

FLOORS = ("calls", "rows", "deeds")
WORDS = ("silent", "form", "late", "twice", "count", "closed", "deed")
MOST_FIGURES = 18
WHO = {"0": 0, "1": 1}


def show_number(number):
    """The text of a whole number."""
    return "-" + figures_of(-number) if number < 0 else figures_of(number)


def show_said(said):
    """The text of what is said."""
    if said is None:
        return "none"
    if isinstance(said, tuple):
        return ",".join([show_number(part) for part in said])
    return show_number(said)


def show_place(place):
    """The text of a place."""
    if isinstance(place, tuple):
        return ".".join([show_number(part) for part in place])
    return show_number(place)


def show_asked(row):
    """The text of a question and what is said to it."""
    word, floor, place, who, answers = row
    words = [floor, show_place(place)]
    if len(who) == 1:
        words.extend(["by", show_number(who[0])])
    said = [show_said(answer[0]) + " " + show_number(answer[1]) for answer in answers]
    return " ".join(words) + " : " + " | ".join(said)


def show_paper(paper):
    """The text's rows of a paper."""
    before, paths, after = paper
    rows = [" ".join(["paper", show_number(before), "to", show_number(after)])]
    for k, word, siblings in paths:
        words = ["leaf", show_number(k), show_number(word), "by"]
        rows.append(" ".join(words + [show_number(sibling) for sibling in siblings]))
    return rows


def show_out(row):
    """The text's rows of an out."""
    word, who, words, paper = row
    shown = ["out"]
    for one, told in zip(who, words):
        shown.extend([show_number(one), told])
    return [" ".join(shown)] + ([] if paper is None else show_paper(paper))


def show_record(record):
    """The text of a record."""
    rows = []
    for row in record:
        if row[0] == "claims":
            rows.append(" ".join(["claims", show_number(row[1]), show_number(row[2])]))
        elif row[0] == "asked":
            rows.append(show_asked(row))
        else:
            rows.extend(show_out(row))
    return "\n".join(rows)


def number_from(text):
    """The whole number that a text tells, or None."""
    below = text.startswith("-")
    figures = text[1:] if below else text
    if len(figures) > MOST_FIGURES or text == "-0":
        return None
    number = number_in(figures)
    return -number if below and number is not None else number


def numbers_from(texts):
    """The whole numbers that texts tell, as a tuple, or None where one tells none."""
    numbers = tuple([number_from(text) for text in texts])
    return None if None in numbers else numbers


def pair_from(text, sign):
    """The pair of whole numbers, parted by a sign, that a text tells, or None."""
    parts = text.split(sign)
    return numbers_from(parts) if len(parts) == 2 else None


def place_from(floor, text):
    """The place on a floor that a text tells, or None."""
    return pair_from(text, ".") if floor == "deeds" else number_from(text)


def answer_from(words):
    """What one says, and by how much it is late, of two words; None where they tell none."""
    late = number_from(words[1])
    said = pair_from(words[0], ",") if "," in words[0] else number_from(words[0])
    if late is None or (said is None and words[0] != "none"):
        return None
    return (said, late)


def answers_from(words):
    """Who is asked and what they say, of the words behind a place; None where they tell none."""
    if len(words) == 6 and words[0] == ":" and words[3] == "|":
        who = (0, 1)
        answers = (answer_from(words[1:3]), answer_from(words[4:6]))
    elif len(words) == 5 and words[0] == "by" and words[1] in WHO and words[2] == ":":
        who = (WHO[words[1]],)
        answers = (answer_from(words[3:5]),)
    else:
        return None
    return None if None in answers else (who, answers)


def claims_from(words):
    """The claims that a row's words tell, or None."""
    numbers = numbers_from(words[1:])
    if words[0] != "claims" or numbers is None or len(numbers) != 2:
        return None
    return ("claims", numbers[0], numbers[1])


def asked_from(words):
    """The question that a row's words tell, or None."""
    if words[0] not in FLOORS or len(words) < 2:
        return None
    place = place_from(words[0], words[1])
    told = answers_from(words[2:])
    if place is None or told is None:
        return None
    return ("asked", words[0], place, told[0], told[1])


def out_from(words):
    """The out, without a paper, that a row's words tell, or None."""
    who = words[1::2]
    told = words[2::2]
    if words[0] != "out" or who not in (["0"], ["1"], ["0", "1"]) or len(told) != len(who):
        return None
    if not all([word in WORDS for word in told]):
        return None
    return ("out", tuple([WHO[one] for one in who]), tuple(told), None)


def paper_ends(words):
    """The seals before and after that a row's words tell of a paper, or None."""
    if len(words) != 4 or words[0] != "paper" or words[2] != "to":
        return None
    return numbers_from([words[1], words[3]])


def leaf_from(words):
    """The opened path that a row's words tell, or None."""
    if len(words) < 4 or words[0] != "leaf" or words[3] != "by":
        return None
    ends = numbers_from(words[1:3])
    siblings = numbers_from(words[4:])
    if ends is None or siblings is None:
        return None
    return (ends[0], ends[1], siblings)


class RecordReading:
    """What the rows so far have told; take tells whether a row can stand there."""

    def __init__(self):
        self.told = []
        self.over = None
        self.ends = None
        self.leaves = []

    def take(self, words):
        if self.ends is not None:
            return self.keep_leaf(leaf_from(words))
        if self.over is not None:
            self.ends = paper_ends(words)
            return self.ends is not None
        if not self.told:
            return self.keep(claims_from(words))
        self.over = out_from(words)
        return self.over is not None or self.keep(asked_from(words))

    def keep(self, row):
        self.told.append(row)
        return row is not None

    def keep_leaf(self, leaf):
        self.leaves.append(leaf)
        return leaf is not None

    def made_record(self):
        word, who, words, paper = self.over
        if self.ends is not None:
            paper = (self.ends[0], tuple(self.leaves), self.ends[1])
        return tuple(self.told + [(word, who, words, paper)])


def read_record(text):
    """The record of a text; NoText at the first row that can't stand there."""
    reading = RecordReading()
    rows = text.split("\n")
    for number, row in enumerate(rows):
        if not reading.take(row.split(" ")):
            raise NoText(number)
    if reading.over is None:
        raise NoText(len(rows))
    return reading.made_record()
