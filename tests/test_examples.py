"""The examples of the document, as it writes them."""

import unittest

from toldwithin.grids import Grid


class ExamplesTest(unittest.TestCase):
    def test_grids(self):
        grid = Grid([("year", ["a", "b"]), ("kind", ["red", "blue"])])
        self.assertEqual(grid.cells, (("a", "red"), ("a", "blue"), ("b", "red"), ("b", "blue")))
        self.assertEqual(grid.region([("kind", ["blue"])]), (1, 3))


if __name__ == "__main__":
    unittest.main()
