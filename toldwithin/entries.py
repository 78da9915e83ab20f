"""Entries of a book: readings, planned readings, and deeds."""

from toldwithin.errors import NoEntry
from toldwithin.grids import Grid
from toldwithin.kinds import is_integer, is_name
from toldwithin.questions import Question, are_amounts
from toldwithin.ratios import as_ratio, is_number, is_reach


class Reading:
    """At this time a question was read; what was told is off by at most the slip."""

    def __init__(self, time, name, question, value, slip):
        check_time_and_name(time, name)
        check_question(question)
        check_number(value, "value")
        check_reach(slip, "slip")
        self.time = time
        self.name = name
        self.question = question
        self.value = as_ratio(value)
        self.slip = as_ratio(slip)
        self.grid = question.grid

    def __eq__(self, other):
        if not isinstance(other, Reading) or self.time != other.time or self.name != other.name:
            return False
        return self.question == other.question and self.value == other.value and self.slip == other.slip


class Planned:
    """A reading whose value is not known."""

    def __init__(self, time, name, question, slip):
        check_time_and_name(time, name)
        check_question(question)
        check_reach(slip, "slip")
        self.time = time
        self.name = name
        self.question = question
        self.slip = as_ratio(slip)
        self.grid = question.grid

    def __eq__(self, other):
        if not isinstance(other, Planned) or self.time != other.time or self.name != other.name:
            return False
        return self.question == other.question and self.slip == other.slip


class Exact:
    """A deed that adds a known number to each cell's amount."""

    def __init__(self, time, name, grid, changes):
        check_time_and_name(time, name)
        check_grid(grid)
        if not are_amounts(grid, changes):
            raise NoEntry("changes")
        self.time = time
        self.name = name
        self.grid = grid
        self.changes = tuple([as_ratio(change) for change in changes])

    def __eq__(self, other):
        if not isinstance(other, Exact) or self.time != other.time or self.name != other.name:
            return False
        return self.grid == other.grid and self.changes == other.changes


class Rough:
    """A deed that adds a number to one cell's amount, known only within a bound."""

    def __init__(self, time, name, grid, place, amount, bound):
        check_time_and_name(time, name)
        check_grid(grid)
        if not is_integer(place) or not 0 <= place < grid.size:
            raise NoEntry("place")
        check_number(amount, "amount")
        check_reach(bound, "bound")
        self.time = time
        self.name = name
        self.grid = grid
        self.place = place
        self.amount = as_ratio(amount)
        self.bound = as_ratio(bound)

    def __eq__(self, other):
        if not isinstance(other, Rough) or self.time != other.time or self.name != other.name:
            return False
        if self.grid != other.grid or self.place != other.place:
            return False
        return self.amount == other.amount and self.bound == other.bound


def check_time_and_name(time, name):
    if not is_integer(time):
        raise NoEntry("time")
    if not is_name(name):
        raise NoEntry("name")


def check_question(question):
    if not isinstance(question, Question):
        raise NoEntry("question")


def check_grid(grid):
    if not isinstance(grid, Grid):
        raise NoEntry("grid")


def check_number(found, word):
    if not is_number(found):
        raise NoEntry(word)


def check_reach(found, word):
    if not is_reach(found):
        raise NoEntry(word)


def is_entry(found):
    return isinstance(found, (Reading, Planned, Exact, Rough))


def is_look(found):
    """Whether this is a reading or a planned one."""
    return isinstance(found, (Reading, Planned))
