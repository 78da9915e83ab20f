"""The highest answer of an aim among all points that a lot of bounded rows lets: exact, by the simplex method.

All numbers are integers. A point is let if the answer of each row (the sum of row times point) is from the row's low
to its high. A basis is a lot of independent rows, as many as there are, each held at its low or its high. The aim is
the sum of the basis's rows with some weights; where each row with a weight above 0 is held at its high, and each one
with a weight below 0 at its low, no point that is let has a higher answer than the point of the basis. So all that is
to do is to change the basis, row by row, until its point is let.
"""

from toldwithin.steps import Steps
from toldwithin.sums import dot


class Bounded:
    """Rows of integers, as long as the width, over a unit, with the low and the high that their answers are to have.

    There are as many independent ones of the rows as the width tells.
    """

    def __init__(self, rows, lows, highs, width, unit):
        self.rows = rows
        self.lows = lows
        self.highs = highs
        self.width = width
        self.unit = unit

    def bound_at(self, number, side):
        return self.highs[number] if side > 0 else self.lows[number]

    def steps_of(self, order):
        return Steps(self.rows, order, self.width, self.unit)

    def first_wrong(self, kept, point, unit):
        """The first row that is not kept and whose answer at a point, over a unit, is not let; None if all are."""
        for number in range(len(self.rows)):
            if number not in kept and self.side_beyond(number, point, unit) != 0:
                return number
        return None

    def side_beyond(self, number, point, unit):
        """1 if a row's answer at a point is above its high, -1 if it is below its low, otherwise 0."""
        answer = dot(self.rows[number], point)
        if answer > self.highs[number] * self.unit * unit:
            return 1
        return -1 if answer < self.lows[number] * self.unit * unit else 0


class Outcome:
    """How a climb ended, and what shows it; the integers are over the unit.

    Without a clash the rows with the weights (by the number of the row) make the aim, and the point is the highest
    one that is let. With a clash no point is let: the rows with the weights make nothing, yet with no answers that
    are let. The basis tells for the number of each of its rows the side on which it is held.
    """

    def __init__(self, is_clash, basis, weights, point, unit):
        self.is_clash = is_clash
        self.basis = basis
        self.weights = weights
        self.point = point
        self.unit = unit


def climb(bounded, aim, near):
    """The outcome for an aim; a basis that is near the last one helps to find it."""
    steps = bounded.steps_of(in_front(list(near), len(bounded.rows)))
    sides = near
    while True:
        weights = steps.weights_of(aim)
        sides = sides_of(steps.kept, weights, sides)
        point = steps.point_of([bounded.bound_at(number, sides[number]) for number in steps.kept])
        wrong = bounded.first_wrong(steps.kept, point, steps.unit)
        if wrong is None:
            return Outcome(False, sides, by_number(steps.kept, weights), point, steps.unit)
        side = bounded.side_beyond(wrong, point, steps.unit)
        parts = steps.weights_of(bounded.rows[wrong])
        leaving = place_leaving(weights, parts, [side * sides[number] for number in steps.kept])
        if leaving is None:
            return clash_by(wrong, steps, sides, parts)
        sides[wrong] = side
        kept = [wrong if place == leaving else number for place, number in enumerate(steps.kept)]
        steps = bounded.steps_of(sorted(kept, key=int))


def sides_of(kept, weights, sides):
    """For each kept row the side that its weight asks for; where that is 0, the side on which it was."""
    found = {}
    for number, weight in zip(kept, weights):
        if weight == 0:
            found[number] = sides.get(number, 1)
        else:
            found[number] = 1 if weight > 0 else -1
    return found


def place_leaving(weights, parts, turns):
    """The place of the kept row whose weight is the first to reach 0 when another row takes weight; None if none is.

    That row is the sum of the kept ones with these parts; a turn is 1 where the two are to move the same way.
    """
    # Of several the first one is taken, as the first wrong row is above, so that no basis comes back (Bland's rule).
    found = None
    for place, (part, turn) in enumerate(zip(parts, turns)):
        if part * turn > 0:
            if found is None or abs(weights[place] * parts[found]) < abs(weights[found] * part):
                found = place
    return found


def clash_by(wrong, steps, sides, parts):
    """The outcome where a row cannot come within its bounds, as it is made by rows that already do what they can."""
    weights = by_number(steps.kept, [-part for part in parts])
    weights[wrong] = steps.unit
    return Outcome(True, sides, weights, [], steps.unit)


def by_number(kept, weights):
    return dict(zip(kept, weights))


def in_front(numbers, many):
    """All numbers below a count, these ones ahead of the others, each of both lots ascending."""
    return [*sorted(numbers, key=int), *[number for number in range(many) if number not in numbers]]
