"""Combinations: dicts from names of looks of a book to numbers, their weights."""

from toldwithin.books import rough_deeds_of
from toldwithin.changes import bare_values, known_up_to
from toldwithin.ratios import Ratio, as_ratio, is_number
from toldwithin.rows import numbers_of
from toldwithin.sums import dot, over_one, sum_of_products


class Combination:
    """The looks of a combination with their weights."""

    def __init__(self, book, weights):
        self.source = book
        self.looks = [book[name] for name in weights]
        self.weights = [as_ratio(weights[name]) for name in weights]

    def left_of(self, question, at):
        """The row of a question at a moment, less each look's row times its weight."""
        rows = [numbers_of(self.source, look.question, look.time) for look in self.looks]
        tops, bottom = over_one(self.weights)
        left = []
        for place, number in enumerate(numbers_of(self.source, question, at)):
            other_tops, other_bottom = over_one([row[place] for row in rows])
            left.append(number - Ratio(dot(tops, other_tops), bottom * other_bottom))
        return left

    def price(self, question, at):
        """The price for a question at a moment; None if the combination does not make the question."""
        left = self.left_of(question, at)
        size = self.source.grid.size
        if not all([number == 0 for number in left[:size]]):
            return None
        slips = [look.slip for look in self.looks]
        bounds = [deed.bound for deed in rough_deeds_of(self.source)]
        return sum_of_products([abs(number) for number in [*self.weights, *left[size:]]], [*slips, *bounds])

    def told_center(self, question, at):
        """The center for a question at a moment, if all looks are readings."""
        values = bare_values(self.source)
        told = sum_of_products(self.weights, [values[look.name] for look in self.looks])
        return told + question.at(known_up_to(self.source, at))


def is_combination(looks, found):
    """Whether this is a dict from names of these looks to numbers."""
    if not isinstance(found, dict):
        return False
    known = [look.name for look in looks]
    return all([isinstance(name, str) and name in known and is_number(found[name]) for name in found])
