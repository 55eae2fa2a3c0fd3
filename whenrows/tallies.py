"""Groups over time: what counts, sums, leasts and greatests are while rows come and go."""


class Tally:
    """The counts, sums, leasts and greatests of the rows of one group that hold."""

    def __init__(self, sums):
        self.sums = sums
        self.height = 0
        self.totals = [0 for each in sums]
        self.rising = [[] for each in sums]

    def turn(self, row, comes):
        """The row begins to hold, or holds no more."""
        self.height = self.height + (1 if comes else -1)
        for place, each in enumerate(self.sums):
            if each[0] == "sum":
                cell = row[each[1]]
                self.totals[place] = self.totals[place] + (cell if comes else -cell)
            elif each[0] != "count":
                turn_cell(self.rising[place], row[each[1]], comes)

    def told(self):
        """The cells of the sums, of one row or more."""
        return tuple([self.cell_at(place) for place in range(len(self.sums))])

    def cell_at(self, place):
        kind = self.sums[place][0]
        if kind == "count":
            return self.height
        if kind == "sum":
            return self.totals[place]
        if kind == "least":
            return self.rising[place][0]
        return self.rising[place][-1]


def turn_cell(rising, cell, comes):
    """Puts the cell among the rising ones, or takes one such out; they stay rising."""
    place = place_of(rising, cell)
    if comes:
        rising.insert(place, cell)
    else:
        rising.pop(place)


def place_of(rising, cell):
    """How many of the rising cells are less than this one."""
    low = 0
    high = len(rising)
    while low < high:
        middle = (low + high) // 2
        if rising[middle] < cell:
            low = middle + 1
        else:
            high = middle
    return low


def tallied(sums, entries):
    """Of a group's rows with their spans: tuples (cells of the sums, start, end) for all time at which some row holds.

    They come in order of time and may touch where the cells are the same.
    """
    turns = turns_of(entries)
    tally = Tally(sums)
    start = None
    pieces = []
    for row, comes in turns.get(None, []):
        tally.turn(row, comes)
    for moment in sorted([bound for bound in turns if bound is not None]):
        if tally.height > 0:
            pieces.append((tally.told(), start, moment))
        for row, comes in turns[moment]:
            tally.turn(row, comes)
        start = moment
    if tally.height > 0:
        pieces.append((tally.told(), start, None))
    return pieces


def turns_of(entries):
    """For each bound the rows that come (True) or go (False) there, with those from ever under None."""
    turns = {}
    for row, span in entries:
        for start, end in span:
            turns.setdefault(start, []).append((row, True))
            if end is not None:
                turns.setdefault(end, []).append((row, False))
    return turns
