import itertools
import unittest

from tests import reckoning
from tests.makers import small_cases
from tests.others import anything, not_integers, not_numbers
from toldwithin.books import Book
from toldwithin.clashes import check_clash, clash_of, excuses, surely_wrong
from toldwithin.entries import Exact, Planned, Reading, Rough
from toldwithin.errors import Clash, NoCount
from toldwithin.grids import Grid
from toldwithin.questions import Question, nothing_of
from toldwithin.ratios import Ratio

GRID = Grid([("kind", ["red", "blue"])])
RED, BLUE = Question(GRID, (1, 0)), Question(GRID, (0, 1))
HALF = Ratio(1, 2)
TINY = Ratio(1, 10 ** 100)
BOOKS = [book for book, _, _ in small_cases(400, 3)]
CLASHING = [book for book in BOOKS if reckoning.has_clash(book)]


def row_of(*values):
    """Readings of red, each with a slip of 1, named a, b and so on."""
    return Book(GRID, [Reading(time, "abcdefghij"[time], RED, value, 1) for time, value in enumerate(values)])


def leaking():
    """The leak takes from 1 to 3, so that red is from 1 to 5 behind it, and is read as 6 to 10."""
    entries = [Reading(1, "x", RED, 5, 1), Rough(2, "leak", GRID, 0, -2, 1), Reading(3, "y", RED, 8, 2)]
    return Book(GRID, [*entries, Planned(4, "p", RED, 1), Reading(5, "z", BLUE, 0, 0)])


class ClashTest(unittest.TestCase):
    def test_the_cases_are_of_both_kinds(self):
        self.assertTrue(30 < len(CLASHING) < len(BOOKS) - 200)

    def test_by_the_sums(self):
        for number, book in enumerate(BOOKS):
            with self.subTest(number):
                found = clash_of(book)
                if book not in CLASHING:
                    self.assertIsNone(found)
                    continue
                self.assertIs(type(found), dict)
                self.assertEqual({type(weight) for weight in found.values()}, {Ratio})
                self.assertTrue(all(isinstance(book[name], Reading) for name in found))
                nothing = nothing_of(book.grid)
                self.assertTrue(reckoning.does_make(book, nothing, found))
                price = reckoning.price(book, nothing, found, None)
                self.assertGreater(abs(reckoning.center(book, nothing, found, None)), price)
                self.assertIs(check_clash(book, found), True)

    def test_multiplied_by_a_number(self):
        for book in CLASHING:
            found = clash_of(book)
            for number in (2, -1, Ratio(-3, 7), 10 ** 50, TINY):
                self.assertIs(check_clash(book, {name: weight * number for name, weight in found.items()}), True)
            self.assertIs(check_clash(book, {name: weight * 0 for name, weight in found.items()}), False)
            self.assertIs(check_clash(book, {}), False)

    def test_with_a_weight_changed(self):
        for book in CLASHING:
            found = clash_of(book)
            for name in found:
                if not book[name].question.is_nothing():
                    self.assertIs(check_clash(book, {**found, name: found[name] + TINY}), False)
                    self.assertIs(check_clash(book, {**found, name: -found[name]}), False)

    def test_the_same_choice_every_time(self):
        for book in CLASHING:
            again = Book(Grid(list(book.grid.axes)), list(reversed(book.entries)))
            self.assertEqual(clash_of(book), clash_of(again))

    def test_what_is_done_to_the_answer(self):
        book = row_of(5, 9)
        clash_of(book).clear()
        self.assertTrue(check_clash(book, clash_of(book)))

    def test_by_hand(self):
        for weights, wanted in [
            ({"x": 1, "y": -1}, True), ({"x": -7, "y": 7}, True), ({"x": HALF, "y": -HALF}, True),
            ({"x": 1, "y": -1, "z": 0}, True), ({"y": Ratio(-1), "x": Ratio(1)}, True),
            ({"x": 1, "y": 1}, False), ({"x": 1, "y": -1, "z": 1}, False), ({"x": 1, "y": -1, "z": TINY}, False),
            ({"x": 1}, False), ({"y": -1}, False), ({}, False), ({"x": 0, "y": 0}, False),
            ({"x": 1, "y": -1, "p": 0}, False), ({"x": 2, "y": -1, "p": -1}, False), ({"x": 1, "y": -1, "leak": 0}, False),
            ({"x": 1, "y": -1, "q": 0}, False), ({"x": 1, "y": -1, 5: 0}, False), ({"x": 1, "y": -1, None: 0}, False),
            ({"x": True, "y": -1}, False), ({"x": 1, "y": -1, "z": False}, False), ({"x": "1", "y": -1}, False),
        ]:
            with self.subTest(weights):
                self.assertIs(check_clash(leaking(), weights), wanted)

    def test_just_a_clash_and_just_none(self):
        for value, wanted in [(7, False), (Ratio(7) + TINY, True), (8, True), (-1, False), (Ratio(-1) - TINY, True)]:
            # From 5 the leak leaves 1 to 5, and what was read is off by at most 2 more.
            entries = [Reading(1, "x", RED, 5, 1), Rough(2, "leak", GRID, 0, -2, 1), Reading(3, "y", RED, value, 2)]
            book = Book(GRID, entries)
            self.assertIs(check_clash(book, {"x": 1, "y": -1}), wanted)
            self.assertIs(clash_of(book) is not None, wanted)

    def test_anything(self):
        for book in (leaking(), row_of(5, 9), Book(GRID)):
            for other in anything():
                with self.subTest(repr(other)):
                    self.assertIs(check_clash(book, other), False)
        for other in not_numbers():
            self.assertIs(check_clash(leaking(), {"x": 1, "y": -1, "z": other}), False)
            self.assertIs(check_clash(leaking(), {"x": 1, "y": other}), False)

    def test_no_clash(self):
        for book in (Book(GRID), row_of(5), row_of(5, 7, 6), leaking().without("x"), leaking().without("y")):
            self.assertIsNone(clash_of(book))

    def test_a_reading_of_nothing(self):
        book = Book(GRID, [Reading(1, "x", nothing_of(GRID), 5, 4), Exact(2, "e", GRID, (1, 2))])
        self.assertEqual(list(clash_of(book)), ["x"])
        for weight, wanted in [(1, True), (-1, True), (TINY, True), (0, False), (False, False)]:
            self.assertIs(check_clash(book, {"x": weight}), wanted)
        self.assertIsNone(clash_of(Book(GRID, [Reading(1, "x", nothing_of(GRID), 5, 5)])))


class ExcuseTest(unittest.TestCase):
    def test_against_the_reckoning(self):
        for number, book in enumerate(BOOKS[:150] + CLASHING):
            with self.subTest(number):
                wanted = reckoning.excuses(book, 3)
                for most in range(4):
                    found = excuses(book, most)
                    self.assertIs(type(found), list)
                    self.assertEqual(found, [lot for lot in wanted if len(lot) <= most])
                    self.assertTrue(all(type(lot) is tuple for lot in found))

    def test_their_order(self):
        # a and b are near, c and d are near, e is far from all.
        book = row_of(5, 6, 9, 10, 99)
        self.assertEqual(excuses(book, 0), [])
        self.assertEqual(excuses(book, 1), [])
        self.assertEqual(excuses(book, 2), [])
        self.assertEqual(excuses(book, 3), [("a", "b", "e"), ("c", "d", "e")])
        book = row_of(5, 9, 5, 9)
        self.assertEqual(excuses(book, 2), [("a", "c"), ("b", "d")])
        book = Book(GRID, [Reading(time, name, RED, value, 1) for time, name, value in
                           [(1, "z", 5), (2, "a10", 9), (3, "a9", 13), (4, "m", 9)]])
        self.assertEqual(excuses(book, 3), [("a9", "z"), ("a10", "a9", "m"), ("a10", "m", "z")])

    def test_no_clash(self):
        for book in (Book(GRID), row_of(5, 6, 7), leaking().without("x")):
            for most in range(4):
                self.assertEqual(excuses(book, most), [()])
                self.assertEqual(surely_wrong(book, most), [])

    def test_only_readings_are_left_out(self):
        self.assertEqual(excuses(leaking(), 3), [("x",), ("y",)])
        book = leaking().add(Planned(6, "a", RED, 0)).add(Exact(7, "b", GRID, (9, 9)))
        self.assertEqual(excuses(book, 3), [("x",), ("y",)])

    def test_surely_wrong(self):
        book = row_of(5, 6, 9)
        self.assertEqual(surely_wrong(book, 1), ["c"])
        self.assertEqual(surely_wrong(book, 2), [])
        self.assertEqual(surely_wrong(row_of(5, 6, 9, 10, 99), 3), ["e"])
        self.assertEqual(surely_wrong(row_of(50, 5, 60, 6, 5, 6), 2), ["a", "c"])
        found = surely_wrong(row_of(50, 5, 60, 6, 5, 6), 3)
        self.assertIs(type(found), list)
        self.assertEqual(found, ["a", "c"])
        for book in CLASHING:
            for most in range(4):
                wanted = [lot for lot in reckoning.excuses(book, 3) if len(lot) <= most]
                if not wanted:
                    with self.assertRaises(Clash):
                        surely_wrong(book, most)
                else:
                    in_all = [name for name in sorted(book.names()) if all(name in lot for lot in wanted)]
                    self.assertEqual(surely_wrong(book, most), in_all)

    def test_no_excuse(self):
        for most in range(3):
            with self.assertRaises(Clash):
                surely_wrong(row_of(5, 6, 9, 10, 99), most)
        with self.assertRaises(Clash):
            surely_wrong(row_of(5, 9), 0)

    def test_no_count(self):
        for other in [*not_integers(), "1", -1, 4, 10 ** 30, -10 ** 30, Ratio(2)]:
            for book in (row_of(5, 9), Book(GRID)):
                with self.subTest(repr(other)):
                    for call in (excuses, surely_wrong):
                        with self.assertRaises(NoCount):
                            call(book, other)

    def test_what_is_done_to_the_answer(self):
        book = row_of(5, 6, 9)
        excuses(book, 1).clear()
        surely_wrong(book, 1).clear()
        self.assertEqual(excuses(book, 1), [("c",)])
        self.assertEqual(surely_wrong(book, 1), ["c"])

    def test_many_clashes_at_once(self):
        # Each two of ten readings clash, so no three of them excuse the others.
        self.assertEqual(excuses(row_of(*range(0, 30, 3)), 3), [])
        # Two lots of five: each reading clashes with all of the other lot.
        self.assertEqual(excuses(row_of(*[0, 9] * 5), 3), [])
        lots = row_of(0, 0, 0, 9, 9, 9, 18, 0, 0, 0)
        self.assertEqual(excuses(lots, 3), [])
        self.assertEqual(excuses(row_of(0, 9, 0, 0, 18, 0, 0, 27, 0, 0), 3), [("b", "e", "h")])

    def test_each_smallest_lot_is_found(self):
        book = row_of(5, 6, 9, 10, 13)
        names = book.names()
        wanted = []
        for many in range(4):
            for lot in itertools.combinations(names, many):
                left = Book(GRID, [entry for entry in book if entry.name not in lot])
                if clash_of(left) is None and not any(set(other) <= set(lot) for other in wanted):
                    wanted.append(lot)
        self.assertEqual(excuses(book, 3), wanted)


if __name__ == "__main__":
    unittest.main()
