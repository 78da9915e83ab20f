"""The reckoning of the tests itself, by hand, so that it does not go wrong in the same way as the package."""

import unittest
from fractions import Fraction

from tests import reckoning
from toldwithin.books import Book
from toldwithin.entries import Exact, Planned, Reading, Rough
from toldwithin.grids import Grid
from toldwithin.questions import Question

GRID = Grid([("kind", ["red", "blue"])])
RED, BLUE = Question(GRID, (1, 0)), Question(GRID, (0, 1))


class ReckoningTest(unittest.TestCase):
    def test_solution(self):
        one, two = [Fraction(1), Fraction(2)], [Fraction(0), Fraction(4)]
        self.assertEqual(reckoning.solution([one, two], [Fraction(1), Fraction(0)]), [1, Fraction(-1, 2)])
        self.assertEqual(reckoning.solution([two], [Fraction(0), Fraction(1)]), [Fraction(1, 4)])
        self.assertIsNone(reckoning.solution([two], [Fraction(1), Fraction(0)]))
        self.assertIsNone(reckoning.solution([two, two], [Fraction(0), Fraction(4)]))
        self.assertEqual(reckoning.solution([], [Fraction(0), Fraction(0)]), [])

    def test_the_example_of_promises(self):
        entries = [Planned(1, "all", RED + BLUE, 1), Rough(2, "leak", GRID, 0, 0, 3), Planned(4, "eye", RED, 2)]
        book = Book(GRID, entries)
        found = [reckoning.least_error(book, *asked) for asked in [(RED, None), (BLUE, None), (RED, 1)]]
        self.assertEqual(found, [2, 6, 5])
        self.assertEqual(reckoning.price(book, BLUE, {"all": 1, "eye": -1}, None), 6)

    def test_the_example_of_stretches(self):
        entries = [Reading(1, "all", RED + BLUE, 10, 1), Rough(2, "leak", GRID, 0, -2, 1), Reading(4, "eye", RED, 3, 2)]
        book = Book(GRID, entries)
        self.assertEqual(reckoning.stretch(book, RED, None), (1, 5))
        self.assertEqual(reckoning.stretch(book, BLUE, None), (1, 9))
        self.assertEqual(reckoning.stretch(book, RED + BLUE, 0), (9, 11))
        self.assertIsNone(reckoning.stretch(book.upto(2), RED, None))
        self.assertFalse(reckoning.has_clash(book))

    def test_the_example_of_clashes(self):
        entries = [Reading(1, "x", RED, 5, 1), Reading(2, "y", RED, 6, 1), Reading(3, "z", RED, 9, 1)]
        book = Book(GRID, entries)
        self.assertTrue(reckoning.has_clash(book))
        self.assertFalse(reckoning.has_clash(book.without("z")))
        self.assertEqual(reckoning.excuses(book, 2), [("z",), ("x", "y")])

    def test_centers_and_known_changes(self):
        entries = [Reading(1, "x", RED, 5, 1), Exact(2, "buy", GRID, (4, 9)), Rough(3, "leak", GRID, 0, -1, 1)]
        book = Book(GRID, entries)
        self.assertEqual(reckoning.known_change(book, 2), [4, 9])
        self.assertEqual(reckoning.known_change(book, None), [3, 9])
        self.assertEqual(reckoning.center(book, RED, {"x": 1}, 1), 5)
        self.assertEqual(reckoning.center(book, RED, {"x": 1}, None), 8)


if __name__ == "__main__":
    unittest.main()
