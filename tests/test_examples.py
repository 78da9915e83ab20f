"""The examples of the document, as it writes them."""

import unittest

from toldwithin.errors import BadText
from toldwithin.grids import Grid
from toldwithin.parsing import parse, show
from toldwithin.questions import each_of, sum_of


class ExamplesTest(unittest.TestCase):
    def test_grids_and_questions(self):
        grid = Grid([("year", ["a", "b"]), ("kind", ["red", "blue"])])
        self.assertEqual(grid.cells, (("a", "red"), ("a", "blue"), ("b", "red"), ("b", "blue")))
        found = [grid.region([("kind", ["blue"])]), sum_of(grid, [("year", ("b",))]).at([1, 2, 3, 5]).text()]
        self.assertEqual(found, [(1, 3), "8"])
        found = [question.at([1, 2, 3, 5]).text() for question in each_of(grid, "kind", [])]
        self.assertEqual(found, ["4", "7"])

    def test_expressions(self):
        self.assertEqual(show(parse("2*( sum(kind=red|blue) -  -a)/3")), "2 * (sum(kind=red|blue) - -a) / 3")
        self.assertEqual(parse("a + each(kind, year=b)").kind, "plus")

    def test_a_wrong_text(self):
        with self.assertRaises(BadText) as caught:
            parse("sum(kind=) + 1")
        self.assertEqual(caught.exception.place, 9)


if __name__ == "__main__":
    unittest.main()
