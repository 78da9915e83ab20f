"""Questions: combinations of the amounts of a grid."""

from toldwithin.errors import NoAmounts, NoAxis, NoQuestion, OtherGrid
from toldwithin.grids import Grid, place_of_axis, region_beside
from toldwithin.kinds import is_sequence
from toldwithin.ratios import as_ratio, is_number
from toldwithin.sums import sum_of_products


class Question:
    """Asks for the sum of each cell's amount times its weight."""

    def __init__(self, grid, weights):
        if not isinstance(grid, Grid):
            raise NoQuestion("grid")
        if not are_amounts(grid, weights):
            raise NoQuestion("weights")
        self.grid = grid
        self.weights = tuple([as_ratio(weight) for weight in weights])

    def __eq__(self, other):
        return isinstance(other, Question) and self.grid == other.grid and self.weights == other.weights

    def __add__(self, other):
        if not isinstance(other, Question):
            return NotImplemented
        if self.grid != other.grid:
            raise OtherGrid()
        return Question(self.grid, [one + two for one, two in zip(self.weights, other.weights)])

    def __sub__(self, other):
        if not isinstance(other, Question):
            return NotImplemented
        return self + -other

    def __neg__(self):
        return Question(self.grid, [-weight for weight in self.weights])

    def __mul__(self, other):
        if not is_number(other):
            return NotImplemented
        return Question(self.grid, [weight * other for weight in self.weights])

    def __rmul__(self, other):
        return self * other

    def over(self, number):
        return Question(self.grid, [weight.over(number) for weight in self.weights])

    def at(self, amounts):
        """The answer for amounts of the grid."""
        if not are_amounts(self.grid, amounts):
            raise NoAmounts()
        return sum_of_products(self.weights, [as_ratio(amount) for amount in amounts])

    def is_nothing(self):
        return all([weight == 0 for weight in self.weights])


class Listed:
    """Questions for the members of an axis, one for each."""

    def __init__(self, axis, questions):
        self.axis = axis
        self.questions = tuple(questions)

    def __eq__(self, other):
        return isinstance(other, Listed) and self.axis == other.axis and self.questions == other.questions

    def __add__(self, other):
        if not isinstance(other, Listed):
            return NotImplemented
        return Listed(self.axis, [one + two for one, two in zip(self.questions, other.questions)])

    def __sub__(self, other):
        if not isinstance(other, Listed):
            return NotImplemented
        return Listed(self.axis, [one - two for one, two in zip(self.questions, other.questions)])

    def __neg__(self):
        return Listed(self.axis, [-question for question in self.questions])

    def __mul__(self, other):
        if not is_number(other):
            return NotImplemented
        return Listed(self.axis, [question * other for question in self.questions])

    def __rmul__(self, other):
        return self * other

    def over(self, number):
        return Listed(self.axis, [question.over(number) for question in self.questions])

    def at(self, amounts):
        """The list of the answers for amounts of the grid."""
        return [question.at(amounts) for question in self.questions]


def are_amounts(grid, found):
    """Whether this is a sequence of as many numbers as the grid has cells."""
    if not is_sequence(found) or len(found) != grid.size:
        return False
    return all([is_number(amount) for amount in found])


def sum_of(grid, wish):
    """The question for the sum over the region of a wish."""
    return sum_over(grid, grid.region(wish))


def nothing_of(grid):
    """The question whose answer is always 0."""
    return sum_over(grid, ())


def each_of(grid, axis, wish):
    """The sums over the region of a wish, one for each member of an axis."""
    at = place_of_axis(grid, axis)
    if at is None:
        raise NoAxis()
    region = region_beside(grid, wish, (axis,))
    return [
        sum_over(grid, [place for place in region if grid.cells[place][at] == member])
        for member in grid.axes[at][1]
    ]


def sum_over(grid, places):
    """The question with the weight 1 at these places and 0 elsewhere."""
    return Question(grid, [1 if place in places else 0 for place in range(grid.size)])
