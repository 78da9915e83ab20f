import itertools
import unittest

from tests.others import names, not_integers, not_sequences, not_strings, plain_things, words_that_are_no_names
from toldwithin.books import Book
from toldwithin.entries import Exact, Planned, Reading, Rough
from toldwithin.errors import NoBook, NoName, NoTime, OtherGrid, SameName, SameTime, TooMany
from toldwithin.grids import Grid
from toldwithin.questions import Question

KINDS = [("kind", ["red", "blue"])]
GRID = Grid(KINDS)
OTHER = Grid([("kind", ["red", "green"])])
QUESTION = Question(GRID, (1, 1))


def reading(time, name):
    return Reading(time, name, QUESTION, 5, 1)


def planned(time, name):
    return Planned(time, name, QUESTION, 1)


def exact(time, name, grid=GRID):
    return Exact(time, name, grid, (1, 2))


def rough(time, name):
    return Rough(time, name, GRID, 0, 1, 1)


def some(*makers):
    """One entry by each maker, with times and names of their own."""
    return [maker(time, "n" + str(time)) for time, maker in enumerate(makers)]


FOUR = [reading(5, "d"), planned(-2, "c"), exact(10 ** 40, "b"), rough(0, "a")]


class BookCase(unittest.TestCase):
    def assertRefused(self, error, fields, told):
        with self.assertRaises(error) as caught:
            told()
        self.assertIs(type(caught.exception), error)
        for name, value in fields.items():
            self.assertEqual(getattr(caught.exception, name), value)
            self.assertIs(type(getattr(caught.exception, name)), type(value))

    def assertWord(self, word, told):
        self.assertRefused(NoBook, {"word": word}, told)


class MakingTest(BookCase):
    def test_entries_in_any_order(self):
        for entries in itertools.permutations(FOUR):
            for given in (entries, list(entries)):
                book = Book(GRID, given)
                self.assertIs(type(book.entries), tuple)
                self.assertEqual([entry.time for entry in book.entries], [-2, 0, 5, 10 ** 40])
                self.assertEqual([entry.name for entry in book.entries], ["c", "a", "d", "b"])
                self.assertEqual(book.grid, GRID)

    def test_no_entries(self):
        for book in (Book(GRID), Book(GRID, ()), Book(GRID, []), Book(grid=GRID, entries=[])):
            self.assertEqual((book.entries, book.names(), book.last(), len(book)), ((), [], None, 0))

    def test_no_grid(self):
        for other in [*not_strings(), "kind", KINDS]:
            if not isinstance(other, Grid):
                with self.subTest(repr(other)):
                    self.assertWord("grid", lambda: Book(other))
                    self.assertWord("grid", lambda: Book(other, FOUR))
                    self.assertWord("grid", lambda: Book(other, None))

    def test_no_entries_at_all(self):
        for other in [*not_sequences(), "ab", {1: reading(1, "a")}, reading(1, "a"), iter(FOUR)]:
            with self.subTest(repr(other)):
                self.assertWord("entries", lambda: Book(GRID, other))

    def test_one_that_is_no_entry(self):
        for other in [*not_strings(), "a", QUESTION, (1, "a")]:
            if not isinstance(other, (Reading, Planned, Exact, Rough)):
                with self.subTest(repr(other)):
                    self.assertWord("entries", lambda: Book(GRID, [other]))
                    self.assertWord("entries", lambda: Book(GRID, (*FOUR, other)))
                    self.assertWord("entries", lambda: Book(GRID, [exact(1, "x", OTHER), other]))
                    self.assertWord("entries", lambda: Book(GRID, [reading(1, "x"), reading(1, "x"), other]))

    def test_what_was_passed_may_change(self):
        entries = list(FOUR)
        book = Book(GRID, entries)
        self.assertEqual([entry.name for entry in entries], ["d", "c", "b", "a"])
        entries.clear()
        self.assertEqual(book.names(), ["c", "a", "d", "b"])

    def test_other_grids(self):
        far = [exact(1, "x", OTHER), Reading(1, "x", Question(OTHER, (1, 1)), 5, 1),
               Planned(1, "x", Question(OTHER, (1, 1)), 1), Rough(1, "x", OTHER, 0, 1, 1)]
        for entry in far:
            self.assertRefused(OtherGrid, {}, lambda: Book(GRID, [*FOUR, entry]))
            self.assertRefused(OtherGrid, {}, lambda: Book(GRID, [entry, *FOUR]))
            # Ahead of all that comes of times, names and numbers.
            self.assertRefused(OtherGrid, {}, lambda: Book(GRID, [entry, reading(1, "x")]))
            self.assertRefused(OtherGrid, {}, lambda: Book(GRID, [*some(*[exact] * 31), entry]))

    def test_equal_grids_that_are_not_the_same(self):
        entry = Exact(1, "x", Grid(KINDS), (1, 2))
        self.assertEqual(Book(GRID, [entry]).names(), ["x"])

    def test_same_times(self):
        for time in (0, -5, 10 ** 30):
            self.assertRefused(SameTime, {"time": time}, lambda: Book(GRID, [reading(time, "x"), planned(time, "y")]))
        entries = [reading(7, "a"), exact(3, "b"), rough(7, "c"), planned(-1, "d"), exact(3, "e"), exact(9, "f")]
        for order in itertools.permutations(entries):
            self.assertRefused(SameTime, {"time": 3}, lambda: Book(GRID, order))

    def test_same_names(self):
        for name in names():
            self.assertRefused(SameName, {"name": name}, lambda: Book(GRID, [reading(1, name), exact(2, name)]))
        entries = [reading(1, "b"), exact(2, "c"), rough(3, "b"), planned(4, "a"), exact(5, "c"), exact(6, "a1")]
        for order in itertools.permutations(entries):
            self.assertRefused(SameName, {"name": "b"}, lambda: Book(GRID, order))

    def test_least_names_are_by_their_characters(self):
        entries = [exact(1, "b"), exact(2, "a9"), exact(3, "b"), exact(4, "a9"), exact(5, "a10"), exact(6, "a10")]
        self.assertRefused(SameName, {"name": "a10"}, lambda: Book(GRID, entries))

    def test_times_go_ahead_of_names(self):
        entries = [exact(1, "a"), exact(2, "a"), exact(9, "z"), exact(9, "y")]
        self.assertRefused(SameTime, {"time": 9}, lambda: Book(GRID, entries))
        self.assertRefused(SameTime, {"time": 1}, lambda: Book(GRID, [exact(1, "a"), exact(1, "a")]))

    def test_times_and_names_go_ahead_of_numbers(self):
        many = some(*[rough] * 31)
        self.assertRefused(SameTime, {"time": 3}, lambda: Book(GRID, [*many, exact(3, "x")]))
        self.assertRefused(SameName, {"name": "n7"}, lambda: Book(GRID, [*many, exact(99, "n7")]))

    def test_thirty_entries(self):
        self.assertEqual(len(Book(GRID, some(*[exact] * 30))), 30)
        self.assertEqual(len(Book(GRID, some(*[exact] * 16, *[reading] * 10, *[rough] * 4))), 30)
        self.assertRefused(TooMany, {"most": 30}, lambda: Book(GRID, some(*[exact] * 31)))

    def test_ten_looks(self):
        for readings in range(12):
            looks = [*[reading] * readings, *[planned] * (11 - readings)]
            self.assertRefused(TooMany, {"most": 10}, lambda: Book(GRID, some(*looks)))
            self.assertEqual(len(Book(GRID, some(*looks[1:]))), 10)

    def test_four_rough_deeds(self):
        self.assertEqual(len(Book(GRID, some(*[rough] * 4))), 4)
        self.assertRefused(TooMany, {"most": 4}, lambda: Book(GRID, some(*[rough] * 5)))

    def test_which_number_goes_first(self):
        self.assertRefused(TooMany, {"most": 30}, lambda: Book(GRID, some(*[exact] * 15, *[reading] * 11, *[rough] * 5)))
        self.assertRefused(TooMany, {"most": 10}, lambda: Book(GRID, some(*[exact] * 14, *[planned] * 11, *[rough] * 5)))
        self.assertRefused(TooMany, {"most": 4}, lambda: Book(GRID, some(*[exact] * 15, *[planned] * 10, *[rough] * 5)))


class StepTest(BookCase):
    def setUp(self):
        self.book = Book(GRID, FOUR)

    def tearDown(self):
        # Each step leaves the old book as it was.
        self.assertEqual(self.book.entries, (FOUR[1], FOUR[3], FOUR[0], FOUR[2]))
        self.assertEqual(self.book.grid, GRID)

    def test_one_entry_more(self):
        for time, place in [(-9, 0), (-1, 1), (1, 2), (6, 3), (10 ** 41, 4)]:
            entry = reading(time, "x")
            for longer in (self.book.add(entry), self.book + entry):
                self.assertIsInstance(longer, Book)
                self.assertEqual(len(longer), 5)
                self.assertIs(longer.entries[place], entry)
                self.assertEqual(longer.grid, GRID)

    def assertNotAdded(self, error, fields, book, entry):
        self.assertRefused(error, fields, lambda: book.add(entry))
        self.assertRefused(error, fields, lambda: book + entry)

    def test_what_is_no_entry(self):
        for other in [*not_strings(), "a", QUESTION, [reading(1, "x")], (), self.book]:
            if not isinstance(other, (Reading, Planned, Exact, Rough)):
                with self.subTest(repr(other)):
                    self.assertNotAdded(NoBook, {"word": "entries"}, self.book, other)

    def test_the_errors_of_books(self):
        self.assertNotAdded(OtherGrid, {}, self.book, exact(5, "d", OTHER))
        self.assertNotAdded(SameTime, {"time": 5}, self.book, exact(5, "d"))
        self.assertNotAdded(SameName, {"name": "d"}, self.book, exact(6, "d"))
        full = Book(GRID, some(*[exact] * 16, *[reading] * 10, *[rough] * 4))
        self.assertNotAdded(TooMany, {"most": 30}, full, reading(99, "x"))
        self.assertNotAdded(TooMany, {"most": 10}, full.without("n0"), planned(99, "x"))
        self.assertNotAdded(TooMany, {"most": 4}, full.without("n0"), rough(99, "x"))
        self.assertEqual(full.without("n0").add(exact(99, "x")).last(), 99)

    def test_without(self):
        for place, name in enumerate(["c", "a", "d", "b"]):
            shorter = self.book.without(name)
            self.assertIsInstance(shorter, Book)
            self.assertEqual(shorter.entries, self.book.entries[:place] + self.book.entries[place + 1:])
            self.assertEqual(shorter.grid, GRID)

    def test_without_an_unknown_name(self):
        for other in [*not_strings(), *words_that_are_no_names(), "x", "aa", "C"]:
            with self.subTest(repr(other)):
                with self.assertRaises(NoName) as caught:
                    self.book.without(other)
                self.assertIs(caught.exception.name, other)
                with self.assertRaises(NoName) as caught:
                    self.book[other]
                self.assertIs(caught.exception.name, other)

    def test_upto(self):
        for time, many in [(-3, 0), (-2, 1), (-1, 1), (0, 2), (4, 2), (5, 3), (10 ** 40 - 1, 3), (10 ** 40, 4)]:
            shorter = self.book.upto(time)
            self.assertIsInstance(shorter, Book)
            self.assertEqual(shorter.entries, self.book.entries[:many])
            self.assertEqual(shorter.grid, GRID)

    def test_upto_no_time(self):
        for other in [*not_integers(), "x"]:
            with self.subTest(repr(other)):
                self.assertRefused(NoTime, {}, lambda: self.book.upto(other))

    def test_names(self):
        found = self.book.names()
        self.assertEqual(found, ["c", "a", "d", "b"])
        self.assertIs(type(found), list)
        found.clear()
        self.assertEqual(self.book.names(), ["c", "a", "d", "b"])

    def test_an_entry_by_its_name(self):
        for entry in FOUR:
            self.assertIs(self.book[entry.name], entry)

    def test_whether_a_name_is_there(self):
        for entry in FOUR:
            self.assertIs(entry.name in self.book, True)
            self.assertIs(entry in self.book, False)
        for other in [*not_strings(), *words_that_are_no_names(), *plain_things(), "x", "aa", [], ["a"], ("a",), b"a"]:
            with self.subTest(repr(other)):
                self.assertIs(other in self.book, False)
                self.assertIs(other in Book(GRID), False)

    def test_how_many(self):
        self.assertEqual([len(Book(GRID, FOUR[:many])) for many in range(5)], [0, 1, 2, 3, 4])

    def test_going_through(self):
        self.assertEqual(list(self.book), list(self.book.entries))
        self.assertEqual([entry.name for entry in self.book], ["c", "a", "d", "b"])
        pairs = [(one.name, two.name) for one in self.book for two in self.book]
        self.assertEqual(pairs, list(itertools.product("cadb", "cadb")))
        one, two = iter(self.book), iter(self.book)
        self.assertEqual([next(one).name, next(one).name, next(two).name, next(one).name], ["c", "a", "c", "d"])
        self.assertEqual(list(Book(GRID)), [])

    def test_the_last_time(self):
        self.assertEqual(self.book.last(), 10 ** 40)
        self.assertEqual(self.book.upto(7).last(), 5)
        self.assertEqual(Book(GRID, [exact(-7, "x"), exact(-9, "y")]).last(), -7)
        self.assertEqual(Book(GRID, [exact(-7, "x")]).last(), -7)
        self.assertIsNone(Book(GRID).last())


class EqualityTest(BookCase):
    def test_equal(self):
        book = Book(GRID, FOUR)
        for entries in itertools.permutations(FOUR):
            self.assertTrue(book == Book(Grid(KINDS), list(entries)))
            self.assertFalse(book != Book(Grid(KINDS), list(entries)))
        self.assertTrue(Book(GRID) == Book(Grid(KINDS), []))
        self.assertTrue(book.without("a").add(FOUR[3]) == book)

    def test_unequal(self):
        book = Book(GRID, FOUR)
        others = [Book(GRID), Book(OTHER), book.without("a"), book.add(exact(1, "x")), book.upto(0)]
        others.append(book.without("a").add(Rough(0, "a", GRID, 0, 1, 2)))
        for other in others:
            self.assertFalse(book == other)
            self.assertTrue(book != other)
        self.assertFalse(Book(GRID) == Book(OTHER))

    def test_anything_else(self):
        for book in (Book(GRID, FOUR), Book(GRID)):
            for other in [*not_strings(), "a", book.entries, list(book.entries), (book.grid, book.entries)]:
                if not isinstance(other, Book):
                    with self.subTest(repr(other)):
                        self.assertFalse(book == other)
                        self.assertTrue(book != other)


if __name__ == "__main__":
    unittest.main()
