"""The examples of the document, as it writes them."""

import doctest
import pathlib
import unittest

from toldwithin.books import Book
from toldwithin.entries import Exact, Reading, Rough
from toldwithin.errors import BadText
from toldwithin.grids import Grid
from toldwithin.histories import History, explains, misfits
from toldwithin.parsing import parse, show
from toldwithin.questions import each_of, sum_of


def texts(numbers):
    return [number.text() for number in numbers]


class ExamplesTest(unittest.TestCase):
    def test_grids_and_questions(self):
        grid = Grid([("year", ["a", "b"]), ("kind", ["red", "blue"])])
        self.assertEqual(grid.cells, (("a", "red"), ("a", "blue"), ("b", "red"), ("b", "blue")))
        found = [grid.region([("kind", ["blue"])]), sum_of(grid, [("year", ("b",))]).at([1, 2, 3, 5]).text()]
        self.assertEqual(found, [(1, 3), "8"])
        found = [question.at([1, 2, 3, 5]).text() for question in each_of(grid, "kind", [])]
        self.assertEqual(found, ["4", "7"])

    def test_expressions(self):
        self.assertEqual(show(parse("2*( sum(kind=red|blue) -  -a)/3")), "2 * (sum(kind=red|blue) - -a) / 3")
        self.assertEqual(parse("a + each(kind, year=b)").kind, "plus")

    def test_a_wrong_text(self):
        with self.assertRaises(BadText) as caught:
            parse("sum(kind=) + 1")
        self.assertEqual(caught.exception.place, 9)

    def test_histories(self):
        grid = Grid([("kind", ["red", "blue"])])
        both = sum_of(grid, [])
        deeds = [Rough(2, "leak", grid, 0, -2, 1), Exact(3, "buy", grid, (0, 4))]
        book = Book(grid, [Reading(1, "count", both, 10, 1), *deeds])
        one = History((6, 5), {"leak": -1})
        self.assertEqual([texts(one.at(book, 2)), texts(one.at(book)), explains(book, one)], [["3", "5"], ["3", "9"], True])
        self.assertEqual(misfits(book, History((6, 6), {"leak": 2})), ["count", "leak"])


class ReadmeTest(unittest.TestCase):
    def test_its_examples(self):
        path = pathlib.Path(__file__).parent.parent / "README.md"
        lines = [line for line in path.read_text(encoding="utf-8").split("\n") if line != "```"]
        test = doctest.DocTestParser().get_doctest("\n".join(lines), {}, "README", str(path), 0)
        self.assertGreater(len(test.examples), 5)
        told = []
        found = doctest.DocTestRunner(verbose=False).run(test, out=told.append)
        self.assertEqual(found.failed, 0, "".join(told))


if __name__ == "__main__":
    unittest.main()
