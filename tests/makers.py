"""Books for tests, made by a rule: the same number makes the same book."""

import random

from toldwithin.books import Book
from toldwithin.entries import Exact, Planned, Reading, Rough
from toldwithin.grids import Grid
from toldwithin.histories import History
from toldwithin.questions import Question
from toldwithin.ratios import Ratio


class Maker:
    def __init__(self, seed):
        self.dice = random.Random(seed)

    def number(self, most):
        return Ratio(self.dice.randint(-most, most), self.dice.choice([1, 1, 1, 2, 3]))

    def reach(self, most):
        return self.dice.choice([Ratio(0), Ratio(0), abs(self.number(most)), abs(self.number(most))])

    def question(self, grid):
        return Question(grid, [self.dice.choice([0, 1, 1, self.number(2)]) for _ in range(grid.size)])

    def deeds(self, grid, rough, exact, planned, times):
        found = [
            Rough(times.pop(), "r" + str(at), grid, self.dice.randrange(grid.size), self.number(3), self.reach(2))
            for at in range(rough)
        ]
        found += [
            Exact(times.pop(), "e" + str(at), grid, [self.number(3) for _ in range(grid.size)]) for at in range(exact)
        ]
        found += [
            Planned(times.pop(), "p" + str(at), self.question(grid), self.reach(2)) for at in range(planned)
        ]
        return found

    def book(self, grid, readings, rough, exact, planned, is_true):
        """A book whose readings are near some history, if it is to be true, or just anything."""
        times = list(range(-2, readings + rough + exact + planned))
        self.dice.shuffle(times)
        entries = self.deeds(grid, rough, exact, planned, times)
        deeds = Book(grid, entries)
        first = [self.number(5) for _ in range(grid.size)]
        history = History(first, {entry.name: entry.bound for entry in entries if isinstance(entry, Rough)})
        for at in range(readings):
            time, question, slip = times.pop(), self.question(grid), self.reach(3)
            value = question.at(history.at(deeds, time)) + slip * Ratio(self.dice.randint(-2, 2), 2)
            if not is_true:
                value = self.number(6)
            entries.append(Reading(time, "l" + str(at), question, value, slip))
        return Book(grid, entries)

    def small_book(self):
        grid = Grid([("kind", ["a", "b", "c"][:self.dice.randint(1, 3)])])
        counts = [self.dice.randint(0, most) for most in (4, 2, 2, 1)]
        return self.book(grid, *counts, self.dice.random() < 0.7)

    def moment(self):
        return self.dice.choice([None, None, *range(-4, 9)])


def small_cases(many, seed):
    """Triples (book, question, moment)."""
    maker = Maker(seed)
    found = []
    for _ in range(many):
        book = maker.small_book()
        found.append((book, maker.question(book.grid), maker.moment()))
    return found


def full_grid():
    return Grid([("year", ["a", "b", "c", "d"]), ("kind", ["red", "blue"])])


def full_book(seed, planned=0):
    """Eight cells, ten looks, four rough deeds, thirty entries; some history explains it."""
    return Maker(seed).book(full_grid(), 10 - planned, 4, 16, planned, True)


class Great(Maker):
    """Makes numbers with so many digits, above and below."""

    def __init__(self, seed, digits):
        super().__init__(seed)
        self.least = 10 ** (digits - 1)

    def number(self, most):
        top = self.dice.randrange(self.least, 10 * self.least)
        return Ratio(top * self.dice.choice([-1, 1]), self.dice.randrange(self.least, 10 * self.least))

    def question(self, grid):
        return Question(grid, [self.number(1) for _ in range(grid.size)])
