"""The house of seals."""


class House:
    """Gives each leaf and each pair of seals a number of its own, from 1 on."""

    def __init__(self):
        self.given = []
        self.seals = {}

    def seal_for(self, made):
        if made not in self.seals:
            self.given.append(made)
            self.seals[made] = len(self.given)
        return self.seals[made]

    def leaf(self, word):
        """The seal of a leaf."""
        return self.seal_for(("leaf", word))

    def pair(self, one, other):
        """The seal of a pair of seals."""
        return self.seal_for(("pair", one, other))

    def opened(self, seal):
        """What a seal was given for, or None where it never was given."""
        if seal < 1 or seal > len(self.given):
            return None
        return self.given[seal - 1]

    def many(self):
        """How many seals it gave."""
        return len(self.given)
