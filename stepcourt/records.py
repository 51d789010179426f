"""Records of disputes: whether they are let by."""

from stepcourt.dispute import Dispute
from stepcourt.errors import NoRecord


def is_claims(row):
    """Whether a record's row has unlike claims."""
    return row[0] == "claims" and row[1] != row[2]


def is_answered(row, question):
    """Whether a record's row is a question with an answer of each who is asked."""
    if row[:4] != ("asked", question[0], question[1], question[2]) or len(row[4]) != len(question[2]):
        return False
    return all([answer[1] >= 0 for answer in row[4]])


def record_holds(house, case, clock, record):
    """True for the whole record of a dispute; NoRecord at the first row that isn't so, or that lacks."""
    if not record or not is_claims(record[0]):
        raise NoRecord(0)
    dispute = Dispute(house, case, clock, record[0][1:])
    number = 1
    while dispute.question() is not None:
        if number == len(record) or not is_answered(record[number], dispute.question()):
            raise NoRecord(number)
        dispute.say(record[number][4])
        number += 1
    if number == len(record) or record[number] != dispute.record()[number]:
        raise NoRecord(number)
    if number + 1 < len(record):
        raise NoRecord(number + 1)
    return True
