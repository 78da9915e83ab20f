"""The fullest books, and the longest numbers."""

import unittest

from tests import reckoning
from tests.makers import Great, Maker, full_book, full_grid
from toldwithin.books import Book
from toldwithin.clashes import check_clash, clash_of, excuses, surely_wrong
from toldwithin.entries import Exact, Planned, Reading, Rough
from toldwithin.histories import explains, misfits
from toldwithin.moments import course_of, news_of
from toldwithin.promises import check_doubt, check_promise, doubt_of, least_error, price_of, promise_of
from toldwithin.questions import Question
from toldwithin.ratios import Ratio
from toldwithin.stretches import (
    center_of, check_drift, check_end, drift_of, ends_of, history_with, some_history, stretch,
)

FULL = [full_book(seed, planned) for seed in range(12) for planned in (0, 3)]
TINY = Ratio(1, 10 ** 100)


def some_questions(book, seed):
    """One question at random, and one that the readings make."""
    maker = Maker(seed)
    made = Question(book.grid, [0] * book.grid.size)
    for entry in reckoning.entries_of(book, Reading):
        made = made + entry.question * maker.number(2)
    return [maker.question(book.grid), made]


def multiplied(book, question, seed, digits):
    """A book and a question that tell the same of other amounts, and what the answers are multiplied by.

    The amounts of each cell are multiplied by a great number, and so is each question with its value and its slip.
    """
    great = Great(seed, digits)
    cells = [abs(great.number(1)) for _ in range(book.grid.size)]

    def asked(told, factor):
        return Question(book.grid, [weight.over(cell) * factor for weight, cell in zip(told.weights, cells)])

    entries = []
    for entry in book:
        factor = abs(great.number(1))
        head = (entry.time, entry.name)
        if isinstance(entry, Reading):
            entries.append(Reading(*head, asked(entry.question, factor), entry.value * factor, entry.slip * factor))
        elif isinstance(entry, Planned):
            entries.append(Planned(*head, asked(entry.question, factor), entry.slip * factor))
        elif isinstance(entry, Exact):
            entries.append(Exact(*head, book.grid, [one * cell for one, cell in zip(entry.changes, cells)]))
        else:
            cell = cells[entry.place]
            entries.append(Rough(*head, book.grid, entry.place, entry.amount * cell, entry.bound * cell))
    factor = abs(great.number(1))
    return Book(book.grid, entries), asked(question, factor), factor


class FullBookCase(unittest.TestCase):
    def assertPromised(self, book, question, at):
        promise, doubt = promise_of(book, question, at=at), doubt_of(book, question, at=at)
        self.assertTrue(check_doubt(book, question, doubt, at=at))
        self.assertTrue(reckoning.is_doubt(book, question, doubt, at))
        self.assertEqual(doubt.error, least_error(book, question, at=at))
        if promise is None:
            self.assertIsNone(doubt.error)
            return
        self.assertEqual(promise.error, doubt.error)
        self.assertTrue(check_promise(book, question, promise, at=at))
        self.assertTrue(reckoning.does_make(book, question, promise.weights))
        price = reckoning.price(book, question, promise.weights, at)
        self.assertEqual(price, reckoning.fraction(promise.error))

    def assertTold(self, book, question, at):
        ends = ends_of(book, question, at=at)
        if ends is None:
            self.assertIsNone(stretch(book, question, at=at))
            self.assertTrue(check_drift(book, question, drift_of(book, question)))
            self.assertIsNotNone(history_with(book, question, 7, at=at))
            return
        self.assertEqual(stretch(book, question, at=at), (ends[0].number, ends[1].number))
        for is_high, sign in [(False, -1), (True, 1)]:
            end = ends[is_high]
            self.assertTrue(check_end(book, question, is_high, end, at=at))
            self.assertTrue(reckoning.does_explain(book, end.history))
            price = reckoning.price(book, question, end.weights, at)
            told = reckoning.center(book, question, end.weights, at)
            self.assertEqual(told + sign * price, reckoning.fraction(end.number))

    def assertEachAnswer(self, book, question, at):
        ends = ends_of(book, question, at=at)
        low, high = ends[0].number, ends[1].number
        for number in (low, (low + high).over(2), high):
            found = history_with(book, question, number, at=at)
            self.assertTrue(explains(book, found))
            self.assertEqual(question.at(found.at(book, at)), number)
        self.assertIsNone(history_with(book, question, low - TINY, at=at))
        self.assertIsNone(history_with(book, question, high + TINY, at=at))


class SmallNumbersTest(FullBookCase):
    def test_they_are_full(self):
        for book in FULL:
            self.assertEqual((book.grid.size, len(book)), (8, 30))
            self.assertEqual(len(reckoning.entries_of(book, Reading, Planned)), 10)
            self.assertEqual(len(reckoning.entries_of(book, Rough)), 4)

    def test_promises(self):
        for seed, book in enumerate(FULL):
            for question in some_questions(book, seed):
                for at in (None, -9, 8, 20):
                    self.assertPromised(book, question, at)

    def test_stretches(self):
        for seed, book in enumerate(FULL):
            self.assertTrue(explains(book, some_history(book)))
            for question in some_questions(book, seed):
                for at in (None, -9, 8, 20):
                    self.assertTold(book, question, at)
            self.assertEachAnswer(book, some_questions(book, seed)[1], 15)

    def test_moments(self):
        for seed, book in enumerate(FULL[:8]):
            question = some_questions(book, seed)[1]
            for time, then, now in course_of(book, question):
                self.assertEqual(now, stretch(book, question, at=time))
                self.assertTrue(then is None or then[0] <= now[0] and now[1] <= then[1])
            for reading in reckoning.entries_of(book, Reading):
                self.assertIsNotNone(news_of(book, reading.name)[1])

    def test_clashes(self):
        clashing = 0
        for seed in range(12):
            book = Maker(seed).book(full_grid(), 10, 4, 16, 0, False)
            clash = clash_of(book)
            if clash is not None:
                clashing += 1
                self.assertTrue(check_clash(book, clash))
                found = excuses(book, 3)
                for names in found:
                    left = Book(book.grid, [entry for entry in book if entry.name not in names])
                    self.assertIsNone(clash_of(left))
                    for name in names:
                        self.assertIsNotNone(clash_of(left.add(book[name])))
                if found:
                    self.assertEqual(surely_wrong(book, 3), sorted(set.intersection(*[set(names) for names in found])))
        self.assertGreater(clashing, 5)

    def test_many_dependent_readings(self):
        # Ten readings of few questions leave much to choose from.
        for seed in range(10):
            maker = Maker(seed)
            grid = full_grid()
            book = maker.book(grid, 0, 4, 16, 0, True)
            few = [maker.question(grid) for _ in range(1 + seed % 3)]
            truth = some_history(book)
            for number in range(10):
                asked = few[0] * maker.number(2)
                for one in few[1:]:
                    asked = asked + one * maker.number(2)
                slip = maker.reach(3)
                value = asked.at(truth.at(book, 20 + number)) + slip
                book = book.add(Reading(20 + number, "x" + str(number), asked, value, slip))
            self.assertEqual(len(book), 30)
            for question in some_questions(book, seed):
                self.assertPromised(book, question, 22)
                self.assertTold(book, question, None)


class LongNumbersTest(FullBookCase):
    def test_multiplied_amounts(self):
        for seed, book in enumerate(FULL):
            question = some_questions(book, seed)[seed % 2]
            long_book, long_question, factor = multiplied(book, question, seed, 60)
            for at in (None, 8):
                least, found = least_error(book, question, at=at), stretch(book, question, at=at)
                if least is None:
                    self.assertIsNone(least_error(long_book, long_question, at=at))
                else:
                    self.assertEqual(least_error(long_book, long_question, at=at), least * factor)
                if found is None:
                    self.assertIsNone(stretch(long_book, long_question, at=at))
                else:
                    wanted = (found[0] * factor, found[1] * factor)
                    self.assertEqual(stretch(long_book, long_question, at=at), wanted)

    def test_numbers_of_a_thousand_digits(self):
        book = full_book(1)
        question = some_questions(book, 1)[1]
        long_book, long_question, _ = multiplied(book, question, 1, 330)
        longest = max(
            len(str(abs(part))) for entry in reckoning.entries_of(long_book, Reading)
            for weight in entry.question.weights for part in (weight.top, weight.bottom)
        )
        self.assertTrue(600 < longest <= 1000)
        ends = ends_of(long_book, long_question)
        for is_high in (False, True):
            self.assertTrue(check_end(long_book, long_question, is_high, ends[is_high]))
        promise, doubt = promise_of(long_book, long_question), doubt_of(long_book, long_question)
        self.assertTrue(check_promise(long_book, long_question, promise))
        self.assertTrue(check_doubt(long_book, long_question, doubt))
        self.assertEqual(promise.error, doubt.error)

    def test_values_and_slips_of_hundreds_of_digits(self):
        great = Great(5, 300)
        book = full_book(5)
        entries = []
        for entry in book:
            if isinstance(entry, Reading):
                entry = Reading(entry.time, entry.name, entry.question, great.number(1), abs(great.number(1)))
            if isinstance(entry, Rough):
                entry = Rough(entry.time, entry.name, book.grid, entry.place, great.number(1), abs(great.number(1)))
            entries.append(entry)
        book = Book(book.grid, entries)
        self.assertPromised(book, some_questions(book, 5)[1], 8)
        clash = clash_of(book)
        if clash is not None:
            self.assertTrue(check_clash(book, clash))
            for names in excuses(book, 3)[:1]:
                book = Book(book.grid, [entry for entry in book if entry.name not in names])
        self.assertTrue(explains(book, some_history(book)))
        for asked in some_questions(book, 6):
            self.assertTold(book, asked, None)

    def great_book(self, digits, is_true):
        return Great(digits, digits).book(full_grid(), 10, 4, 16, 0, is_true)

    def test_all_numbers_of_hundreds_of_digits(self):
        book = self.great_book(110, True)
        question = Great(7, 110).question(book.grid)
        promise = promise_of(book, question, at=8)
        self.assertTrue(check_promise(book, question, promise, at=8))
        self.assertTrue(check_doubt(book, question, doubt_of(book, question, at=8), at=8))
        self.assertEqual(price_of(book, question, promise.weights, at=8), promise.error)
        low, high = ends_of(book, question, at=8)
        self.assertTrue(check_end(book, question, False, low, at=8))
        self.assertTrue(check_end(book, question, True, high, at=8))
        # What the package returned may be passed again, however long it is.
        self.assertEqual(misfits(book, low.history), [])
        found = history_with(book, question, (low.number + high.number).over(2), at=8)
        self.assertTrue(explains(book, found))
        told = center_of(book, question, high.weights, at=8)
        self.assertEqual(told + price_of(book, question, high.weights, at=8), high.number)

    def test_clashes_of_hundreds_of_digits(self):
        book = self.great_book(101, False)
        clash = clash_of(book)
        self.assertTrue(check_clash(book, clash))
        name = list(clash)[0]
        self.assertFalse(check_clash(book, {**clash, name: clash[name] + TINY}))
        self.assertIsInstance(excuses(book, 1), list)

    def test_a_course_of_long_numbers(self):
        book = self.great_book(40, True)
        question = Great(9, 40).question(book.grid)
        for _, then, now in course_of(book, question):
            self.assertTrue(then is None or then[0] <= now[0] and now[1] <= then[1])


if __name__ == "__main__":
    unittest.main()
