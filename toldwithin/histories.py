"""Histories: amounts at first, and how much more than told the rough deeds added."""

from toldwithin.books import check_moment, is_by, rough_deeds_of
from toldwithin.changes import bare_values, known_up_to, with_more
from toldwithin.entries import Reading, Rough
from toldwithin.errors import NoHistory
from toldwithin.kinds import is_name, is_sequence
from toldwithin.ratios import as_ratio, is_number
from toldwithin.rows import Held, extra_of, row_of


class History:
    """The amounts at first, and the extra of each rough deed by its name."""

    def __init__(self, first, extras):
        if not is_sequence(first) or not all([is_number(amount) for amount in first]):
            raise NoHistory()
        if not isinstance(extras, dict) or not all([is_name(name) for name in extras]):
            raise NoHistory()
        if not all([is_number(extras[name]) for name in extras]):
            raise NoHistory()
        self.first = tuple([as_ratio(amount) for amount in first])
        self.extras = {name: as_ratio(extras[name]) for name in extras}

    def __eq__(self, other):
        return isinstance(other, History) and self.first == other.first and self.extras == other.extras

    def at(self, book, time=None):
        """The amounts at a moment."""
        bare = self.bare(book, time)
        return tuple([one + more for one, more in zip(bare, known_up_to(book, time))])

    def bare(self, book, time=None):
        """The amounts at first with the extras up to a moment alone."""
        if not is_of(book, self):
            raise NoHistory()
        check_moment(time)
        amounts = list(self.first)
        for deed in rough_deeds_of(book):
            if is_by(deed, time):
                amounts = with_more(amounts, deed.place, extra_of(self, deed))
        return tuple(amounts)


def is_of(book, found):
    """Whether this is a history with as many amounts as the book's grid has cells."""
    return isinstance(found, History) and len(found.first) == book.grid.size


def explains(book, history):
    """Whether a history goes with all rough deeds and readings of a book."""
    return is_of(book, history) and misfits(book, history) == []


def misfits(book, history):
    """The names of the rough deeds and readings with which a history does not go."""
    if not is_of(book, history):
        raise NoHistory()
    held = Held(book, history)
    values = bare_values(book)
    found = []
    for entry in book.entries:
        if isinstance(entry, Rough) and not is_within(extra_of(history, entry), entry.bound):
            found.append(entry.name)
        if isinstance(entry, Reading) and not is_told(book, entry, values[entry.name], held):
            found.append(entry.name)
    return found


def answer_in(book, history, question, at):
    """The answer of a question at a moment of a history."""
    return Held(book, history).answer(row_of(book, question, at)) + question.at(known_up_to(book, at))


def is_within(number, most):
    return -most <= number and number <= most


def is_told(book, reading, value, held):
    """Whether the answer of a reading's question is within its slip of its bare value."""
    row = row_of(book, reading.question, reading.time)
    return held.is_answer_between(row, value - reading.slip, value + reading.slip)
