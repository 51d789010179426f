"""The refusals, one class for each."""


class CourtError(ValueError):
    """Any refusal."""


class NoText(CourtError):
    """A text that is none; row is the first one that can't stand there."""

    def __init__(self, row):
        CourtError.__init__(self, row)
        self.row = row


class NoProgram(CourtError):
    """A program that isn't let by; word says what is amiss, name where."""

    def __init__(self, word, name):
        CourtError.__init__(self, word, name)
        self.word = word
        self.name = name


class TooLong(CourtError):
    """A run that takes more turns than asked for; most is how many these were."""

    def __init__(self, most):
        CourtError.__init__(self, most)
        self.most = most


class NoRecord(CourtError):
    """A record that no dispute has; row is the first one that isn't so."""

    def __init__(self, row):
        CourtError.__init__(self, row)
        self.row = row
