"""Rows of integers, brought into steps without fractions."""

from toldwithin.sums import dot


class Steps:
    """As many independent ones of some rows as there are, each without what those ahead of it hold.

    The rows, as long as the width, are integers over a unit: 1, or the unit of the steps in whose terms the rows are
    told. Each number that comes up on the way is the determinant of a part of the rows (Bareiss), so each division
    here comes out even, and no number is longer than it has to be. The rows are looked at in an order; a row is kept
    if it does not depend on those that were kept ahead of it. The methods return integers over the own `unit`, which
    is above 0.
    """

    def __init__(self, rows, order, width, unit=1):
        self.width = width
        self.first_unit = unit
        self.kept = []
        self.columns = []
        self.pivots = []
        self.rests = []
        self.factors = []
        for number in order:
            # Once there is a step for each column, all other rows depend on those that were kept.
            if len(self.kept) < width:
                self.take(number, rows[number])
        self.pivot = self.pivots[-1] if len(self.pivots) > 0 else unit
        self.unit = abs(self.pivot)

    def take(self, number, row):
        """Keeps a row if it does not depend on those that were kept."""
        factors, rest = self.reduced(row)
        column = first_filled(rest)
        if column is None:
            return
        self.kept.append(number)
        self.columns.append(column)
        self.pivots.append(rest[column])
        self.rests.append(rest)
        self.factors.append(factors)

    def reduced(self, row):
        """What a row held at each step's column when its turn came, and what is left of the row."""
        rest = row
        factors = []
        behind = self.first_unit
        for column, pivot, step in zip(self.columns, self.pivots, self.rests):
            factors.append(rest[column])
            rest = without_step(rest, column, pivot, step, behind)
            behind = pivot
        return factors, rest

    def weights_of(self, row):
        """The weights of the kept rows whose sum is a row; None if there are none."""
        factors, rest = self.reduced(row)
        if first_filled(rest) is not None:
            return None
        weights = [0] * len(factors)
        for place in reversed(range(len(factors))):
            later = [weights[at] * self.factors[at][place] for at in range(place + 1, len(factors))]
            weights[place] = (self.pivot * factors[place] - sum(later)) // self.pivots[place]
        return self.turned(weights)

    def point_of(self, answers):
        """A point at which the kept rows have these answers."""
        rests = []
        for factors, answer in zip(self.factors, answers):
            rest = self.first_unit * answer
            behind = self.first_unit
            for factor, pivot, other in zip(factors, self.pivots, rests):
                rest = without_part(rest, factor, pivot, other, behind)
                behind = pivot
            rests.append(rest)
        return self.turned(self.solved(rests, [0] * self.width))

    def way_out(self, row):
        """Integers at which all kept rows have the answer 0 and a row has another one; None if there are none."""
        _, rest = self.reduced(row)
        column = first_filled(rest)
        if column is None:
            return None
        way = [self.pivot if at == column else 0 for at in range(self.width)]
        return self.solved([0] * len(self.kept), way)

    def solved(self, rests, point):
        """A point with those numbers at the steps' columns that the answers of the reduced rows ask for."""
        found = list(point)
        for place in reversed(range(len(rests))):
            missing = self.pivot * rests[place] - dot(self.rests[place], found)
            found[self.columns[place]] = missing // self.pivots[place]
        return found

    def turned(self, numbers):
        """Numbers over the unit, from those over the last pivot, which may be below 0."""
        return numbers if self.pivot > 0 else [-number for number in numbers]


def without_step(row, column, pivot, step, behind):
    """A row without what it holds at a step's column."""
    factor = row[column]
    found = [without_part(part, factor, pivot, other, behind) for part, other in zip(row, step)]
    found[column] = 0
    return found


def without_part(part, factor, pivot, other, behind):
    """One number of a row without what it holds of a step, where the row held this factor at the step's column."""
    # Products of very long numbers take long, and many of them come to nothing.
    if pivot == behind and (factor == 0 or other == 0):
        return part
    return (pivot * part - factor * other) // behind


def first_filled(row):
    """The first place of a row where it is not 0, or None."""
    for place, part in enumerate(row):
        if part != 0:
            return place
    return None
