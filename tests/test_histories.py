import unittest

from tests.others import names, not_integers, not_names, not_numbers, not_sequences, not_strings, plain_things
from toldwithin.books import Book
from toldwithin.entries import Exact, Planned, Reading, Rough
from toldwithin.errors import NoHistory, NoTime
from toldwithin.grids import Grid
from toldwithin.histories import History, explains, misfits
from toldwithin.questions import Question
from toldwithin.ratios import Ratio

GRID = Grid([("kind", ["red", "blue"])])
RED, BLUE = Question(GRID, (1, 0)), Question(GRID, (0, 1))
HALF = Ratio(1, 2)
# Prime to each other, so that what is just at and just beyond differs only far behind.
LONG = Ratio(10 ** 400 + 7, 3 ** 700)
TINY = Ratio(1, 7 ** 900)


def texts(numbers):
    return [number.text() for number in numbers]


def deeds():
    return [
        Exact(-10 ** 30, "a", GRID, (1, 0)),
        Rough(2, "b", GRID, 0, -2, 1),
        Exact(4, "c", GRID, (HALF, -3)),
        Rough(6, "d", GRID, 1, 10, HALF),
        Rough(8, "e", GRID, 0, Ratio(1, 3), 0),
        Planned(9, "f", RED, 1),
    ]


class HistoryCase(unittest.TestCase):
    def setUp(self):
        self.book = Book(GRID, deeds())

    def assertNoHistory(self, told):
        with self.assertRaises(NoHistory):
            told()

    def assertAmounts(self, found, *wanted):
        self.assertIs(type(found), tuple)
        self.assertEqual({type(amount) for amount in found}, {Ratio})
        self.assertEqual(texts(found), list(wanted))


class MakingTest(HistoryCase):
    def test_the_fields(self):
        history = History([1, Ratio(4, 6), -2], {"leak": 2, "a": Ratio(-1, 2)})
        self.assertIs(type(history.first), tuple)
        self.assertEqual(texts(history.first), ["1", "2/3", "-2"])
        self.assertEqual({type(amount) for amount in history.first}, {Ratio})
        self.assertIs(type(history.extras), dict)
        self.assertEqual({name: extra.text() for name, extra in history.extras.items()}, {"leak": "2", "a": "-1/2"})
        self.assertEqual({type(extra) for extra in history.extras.values()}, {Ratio})

    def test_nothing_in_it(self):
        history = History((), {})
        self.assertEqual((history.first, history.extras), ((), {}))

    def test_wrong_first_amounts(self):
        for other in [*not_sequences(), "12", {0: 1, 1: 2}, range(2)]:
            with self.subTest(repr(other)):
                self.assertNoHistory(lambda: History(other, {}))
        for other in not_numbers():
            with self.subTest(repr(other)):
                self.assertNoHistory(lambda: History([other], {}))
                self.assertNoHistory(lambda: History((1, 2, other), {"a": 1}))

    def test_wrong_extras(self):
        for other in [*not_strings(), "", "ab", [("a", 1)], (("a", 1),)]:
            if isinstance(other, dict):
                continue
            with self.subTest(repr(other)):
                self.assertNoHistory(lambda: History((1, 2), other))
        for other in not_names():
            if isinstance(other, (list, dict, slice, bytearray)) or type(other).__hash__ is None:
                continue
            with self.subTest(repr(other)):
                self.assertNoHistory(lambda: History((1, 2), {other: 1}))
                self.assertNoHistory(lambda: History((1, 2), {"a": 1, other: 1}))
        for other in not_numbers():
            with self.subTest(repr(other)):
                self.assertNoHistory(lambda: History((1, 2), {"a": other}))
                self.assertNoHistory(lambda: History((1, 2), {"b": 1, "a": other}))

    def test_names_of_extras(self):
        for name in names():
            self.assertEqual(list(History((), {name: 0}).extras), [name])

    def test_what_was_passed_may_change(self):
        first, extras = [1, 2], {"a": 3}
        history = History(first, extras)
        self.assertEqual((first, extras), ([1, 2], {"a": 3}))
        self.assertIs(type(extras["a"]), int)
        first.append(9)
        extras["b"] = 1
        extras["a"] = 7
        self.assertEqual(history.first, (1, 2))
        self.assertEqual(history.extras, {"a": 3})


class EqualityTest(HistoryCase):
    def test_equal(self):
        one = History([1, HALF], {"a": 1, "b": HALF})
        self.assertTrue(one == History((Ratio(1), Ratio(2, 4)), {"b": Ratio(1, 2), "a": Ratio(1)}))
        self.assertFalse(one != History((1, HALF), {"b": HALF, "a": 1}))

    def test_unequal(self):
        one = History([1, 2], {"a": 1})
        for other in [History([1], {"a": 1}), History([1, 3], {"a": 1}), History([2, 1], {"a": 1}),
                      History([1, 2], {}), History([1, 2], {"a": 2}), History([1, 2], {"b": 1}),
                      History([1, 2], {"a": 1, "b": 0})]:
            self.assertFalse(one == other)
            self.assertTrue(one != other)

    def test_anything_else(self):
        one = History((), {})
        for other in [*not_strings(), "", (), {}, ((), {}), one.first, one.extras]:
            with self.subTest(repr(other)):
                self.assertFalse(one == other)
                self.assertTrue(one != other)


class AmountTest(HistoryCase):
    def test_at_each_moment(self):
        history = History((6, 5), {"b": HALF, "d": Ratio(-1, 4), "z": 99, "c": 7})
        for time, wanted in [
            (-10 ** 31, ("6", "5")), (-10 ** 30 - 1, ("6", "5")), (-10 ** 30, ("7", "5")), (1, ("7", "5")),
            (2, ("11/2", "5")), (3, ("11/2", "5")), (4, ("6", "2")), (5, ("6", "2")), (6, ("6", "47/4")),
            (7, ("6", "47/4")), (8, ("19/3", "47/4")), (9, ("19/3", "47/4")), (10 ** 50, ("19/3", "47/4")),
            (None, ("19/3", "47/4")),
        ]:
            self.assertAmounts(history.at(self.book, time), *wanted)
        self.assertAmounts(history.at(self.book), "19/3", "47/4")
        self.assertAmounts(history.at(book=self.book, time=2), "11/2", "5")

    def test_bare_at_each_moment(self):
        history = History((6, 5), {"b": HALF, "d": Ratio(-1, 4), "z": 99, "c": 7})
        for time, wanted in [
            (-10 ** 31, ("6", "5")), (-10 ** 30, ("6", "5")), (1, ("6", "5")), (2, ("13/2", "5")), (5, ("13/2", "5")),
            (6, ("13/2", "19/4")), (8, ("13/2", "19/4")), (10 ** 50, ("13/2", "19/4")), (None, ("13/2", "19/4")),
        ]:
            self.assertAmounts(history.bare(self.book, time), *wanted)
        self.assertAmounts(history.bare(self.book), "13/2", "19/4")
        self.assertAmounts(history.bare(book=self.book, time=2), "13/2", "5")

    def test_a_rough_deed_without_an_extra(self):
        self.assertAmounts(History((0, 0), {}).at(self.book), "-1/6", "7")
        self.assertAmounts(History((0, 0), {}).bare(self.book), "0", "0")

    def test_extras_of_names_that_are_no_rough_deed(self):
        history = History((0, 0), {"a": 5, "c": 5, "f": 5, "nobody": 5})
        self.assertAmounts(history.at(self.book), "-1/6", "7")
        self.assertAmounts(history.bare(self.book), "0", "0")

    def test_a_book_without_entries(self):
        history = History((1, HALF), {"b": 1})
        for time in (None, 0, -5):
            self.assertAmounts(history.at(Book(GRID), time), "1", "1/2")
            self.assertAmounts(history.bare(Book(GRID), time), "1", "1/2")

    def test_two_rough_deeds_at_one_cell(self):
        book = Book(GRID, [Rough(1, "a", GRID, 1, 1, 1), Rough(2, "b", GRID, 1, 2, 1)])
        history = History((0, 0), {"a": HALF, "b": Ratio(1, 3)})
        self.assertAmounts(history.at(book, 1), "0", "3/2")
        self.assertAmounts(history.at(book, 2), "0", "23/6")
        self.assertAmounts(history.bare(book, 2), "0", "5/6")

    def test_too_few_and_too_many_amounts(self):
        for first in [(), (1,), (1, 2, 3)]:
            history = History(first, {})
            for time in (None, 1, True, "x", []):
                self.assertNoHistory(lambda: history.at(self.book, time))
                self.assertNoHistory(lambda: history.bare(self.book, time))

    def test_no_time(self):
        history = History((1, 2), {})
        for other in [*not_integers(), "x"]:
            if other is None:
                continue
            with self.subTest(repr(other)):
                for told in (history.at, history.bare):
                    with self.assertRaises(NoTime):
                        told(self.book, other)

    def test_the_history_stays_as_it_was(self):
        history = History((1, 2), {"b": 1})
        history.at(self.book)
        history.bare(self.book)
        self.assertEqual(history, History((1, 2), {"b": 1}))
        self.assertEqual(self.book, Book(GRID, deeds()))


class ExplainingTest(HistoryCase):
    def assertMisfits(self, book, history, *wanted):
        found = misfits(book, history)
        self.assertIs(type(found), list)
        self.assertEqual(found, list(wanted))
        self.assertIs(explains(book, history), wanted == ())

    def test_anything_as_history(self):
        empty = Book(GRID)
        for other in [*not_strings(), *plain_things(), "", "history", ((1, 2), {}), (1, 2), [1, 2], {"a": 1},
                      History((), {}), History((1,), {}), History((1, 2, 3), {})]:
            if isinstance(other, History) and len(other.first) == 2:
                continue
            with self.subTest(repr(other)):
                for book in (empty, self.book):
                    self.assertIs(explains(book, other), False)
                    self.assertNoHistory(lambda: misfits(book, other))
        self.assertMisfits(empty, History((1, 2), {"a": 10 ** 9}))

    def test_a_reading_at_the_edges_of_its_slip(self):
        for value, slip in [(5, 1), (LONG, TINY), (-LONG, Ratio(3, 7)), (0, 0), (LONG, 0), (Ratio(-1, 3), LONG)]:
            book = Book(GRID, [Reading(1, "x", RED, value, slip)])
            for sign in (1, -1):
                for less in (1, HALF, 0):
                    self.assertMisfits(book, History((value + slip * sign * less, 9), {}))
                self.assertMisfits(book, History((value + (slip + TINY * TINY) * sign, 9), {}), "x")
                self.assertMisfits(book, History((value + (slip + 1) * sign, 9), {}), "x")

    def test_an_extra_at_the_edges_of_its_bound(self):
        for amount, bound in [(5, 1), (LONG, TINY), (-LONG, LONG), (0, 0)]:
            book = Book(GRID, [Rough(1, "x", GRID, 1, amount, bound)])
            for sign in (1, -1):
                for less in (1, HALF, 0):
                    self.assertMisfits(book, History((0, 0), {"x": bound * sign * less}))
                self.assertMisfits(book, History((0, 0), {"x": (bound + TINY * TINY) * sign}), "x")
                self.assertMisfits(book, History((0, 0), {"x": (bound + 1) * sign}), "x")

    def test_a_rough_deed_behind_all_readings_counts(self):
        book = Book(GRID, [Reading(1, "x", RED, 0, 0), Rough(9, "y", GRID, 0, 0, 1)])
        self.assertMisfits(book, History((0, 0), {"y": 2}), "y")
        self.assertMisfits(book, History((0, 0), {"y": 1}))
        self.assertMisfits(book, History((0, 0), {}))

    def test_a_reading_reads_the_moment_of_its_time(self):
        entries = [
            Reading(1, "x", RED, 5, 0), Rough(2, "leak", GRID, 0, -2, 1), Reading(3, "y", RED, Ratio(7, 2), 0),
            Exact(4, "buy", GRID, (10, 1)), Reading(5, "z", RED + BLUE, Ratio(33, 2), 0),
        ]
        book = Book(GRID, entries)
        self.assertMisfits(book, History((5, 2), {"leak": HALF}))
        self.assertMisfits(book, History((5, 2), {}), "y", "z")
        self.assertMisfits(book, History((5, 3), {"leak": HALF}), "z")
        self.assertMisfits(book, History((4, 3), {"leak": HALF}), "x", "y")
        self.assertMisfits(book, History((0, 0), {"leak": Ratio(-3, 2)}), "x", "leak", "y", "z")
        self.assertMisfits(book, History((0, 0), {"leak": HALF, "buy": 99}), "x", "y", "z")

    def test_misfits_are_in_the_order_of_the_times(self):
        entries = [Reading(time, name, RED, 0, 0) for time, name in [(3, "a"), (-10 ** 25, "b"), (10 ** 25, "c"), (0, "d")]]
        entries.append(Rough(-7, "e", GRID, 0, 0, 0))
        self.assertMisfits(Book(GRID, entries), History((1, 1), {"e": 5}), "b", "e", "d", "a", "c")

    def test_planned_ones_and_exact_deeds_mean_nothing(self):
        book = Book(GRID, [Planned(1, "x", RED, 0), Planned(2, "y", RED - BLUE, 0), Exact(3, "z", GRID, (7, 7))])
        self.assertMisfits(book, History((LONG, -LONG), {"x": 5, "y": -5, "z": 99}))

    def test_weights_of_any_sign(self):
        question = Question(GRID, (Ratio(2, 3), Ratio(-5, 7)))
        book = Book(GRID, [Rough(0, "r", GRID, 1, 0, 3), Reading(1, "x", question, 1, 0)])
        # 2/3 * 9 - 5/7 * (4 + 3) = 1
        self.assertMisfits(book, History((9, 4), {"r": 3}))
        self.assertMisfits(book, History((9, 4), {"r": 2}), "x")

    def test_the_returned_list_is_new(self):
        book = Book(GRID, [Reading(1, "x", RED, 5, 1)])
        history = History((0, 0), {})
        misfits(book, history).clear()
        self.assertEqual(misfits(book, history), ["x"])


if __name__ == "__main__":
    unittest.main()
