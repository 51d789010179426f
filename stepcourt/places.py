"""What is true of a case at the places of the three floors."""

from stepcourt.deeds import deed_behind
from stepcourt.layout import Layout, begin
from stepcourt.machine import stand_behind
from stepcourt.trees import seal_of


class Places:
    """The run of a case, row by row as far as it was asked for, by seals of a house."""

    def __init__(self, house, case):
        self.house = house
        self.case = case
        self.layout = Layout(case[0])
        self.stands = [begin(case[0], case[1])]
        self.seals = {}

    def at(self, floor, place):
        """What is true at a place: (rows, seal) on the floor calls, else a seal."""
        if floor == "calls":
            rows = self.rows_until(place)
            return (rows, self.seal_behind(rows, 0))
        if floor == "rows":
            return self.seal_behind(place, 0)
        return self.seal_behind(place[0], place[1])

    def rows_until(self, calls):
        """The rows behind which so many calls are done."""
        program, numbers, most, last = self.case
        rows = most if calls == last else 0
        while rows < most and self.stand_at(rows)[4] < calls:
            rows += 1
        return rows

    def stand_at(self, rows):
        while len(self.stands) <= rows:
            self.stands.append(stand_behind(self.layout, self.stands[-1]))
        return self.stands[rows]

    def seal_behind(self, rows, deeds):
        """The seal of the stand behind so many rows and deeds of the next row."""
        if (rows, deeds) not in self.seals:
            stand = self.stand_at(rows)
            for deed in range(deeds):
                stand = deed_behind(self.layout, stand)
            self.seals[(rows, deeds)] = seal_of(self.house, stand)
        return self.seals[(rows, deeds)]
