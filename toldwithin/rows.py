"""Rows: what a question at a moment asks of the amounts at first and of the extras of the rough deeds.

A history is a list of numbers, too: the amounts at first, then the extra of each rough deed of the book, in the order
of their times. The answer of a question at the bare amounts of a moment is the sum of row times history.
"""

from toldwithin.books import is_by, rough_deeds_of
from toldwithin.ratios import Ratio
from toldwithin.sums import dot, is_between, over_one, shared_by


class Row:
    """The numbers of a row as integers that are as short as they can be (parts): the numbers times a scale."""

    def __init__(self, numbers):
        tops, bottom = over_one(numbers)
        shared = shared_by(tops)
        self.parts = [top // shared for top in tops]
        self.scale = Ratio(bottom, shared)


class Held:
    """The numbers of a history as integers (parts) over one scale."""

    def __init__(self, book, history):
        extras = [extra_of(history, deed) for deed in rough_deeds_of(book)]
        self.parts, self.scale = over_one([*history.first, *extras])

    def answer(self, row):
        return Ratio(dot(row.parts, self.parts) * row.scale.bottom, row.scale.top * self.scale)

    def is_answer_between(self, row, low, high):
        # The answer itself is not needed, and its lowest terms would take long to find.
        return is_between(dot(row.parts, self.parts) * row.scale.bottom, row.scale.top * self.scale, low, high)


def numbers_of(book, question, at):
    """The row of a question at a moment, as ratios."""
    asked = [question.weights[deed.place] if is_by(deed, at) else Ratio(0) for deed in rough_deeds_of(book)]
    return [*question.weights, *asked]


def row_of(book, question, at):
    return Row(numbers_of(book, question, at))


def extra_of(history, deed):
    return history.extras.get(deed.name, Ratio(0))
