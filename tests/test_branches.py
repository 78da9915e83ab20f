"""Branches: [42], [43], [44]."""

import random
import unittest
from itertools import combinations

from tests import reckoning
from tests.makers import Maker, full_grid, small_cases
from tests.others import anything
from toldwithin.books import Book
from toldwithin.branches import Conflict, check_cut, cut, cut_paper, merged, tangle
from toldwithin.clashes import check_clash, excuses
from toldwithin.entries import Exact, Planned, Reading, Rough
from toldwithin.errors import Clash, OtherGrid, TooMany
from toldwithin.grids import Grid
from toldwithin.questions import Question, nothing_of
from toldwithin.ratios import Ratio

GRID = Grid([("kind", ["red", "blue"])])
RED, BLUE = Question(GRID, (1, 0)), Question(GRID, (0, 1))
NOTHING = nothing_of(GRID)
FAR = Book(Grid([("kind", ["red", "green"])]))
X = Reading(1, "x", RED, 5, 1)
BASE = Book(GRID, [X, Exact(2, "e", GRID, (1, 0))])


def exact(time, name, change=1):
    return Exact(time, name, GRID, (change, 0))


def readings(book):
    return reckoning.entries_of(book, Reading)


def without(book, names):
    return Book(book.grid, [entry for entry in book if entry.name not in names])


def merged_by_rows(base, one, other):
    """By the words of [42], as a triple: "book" with the entries by their names, or a kind of conflict."""
    tables = [{entry.name: entry for entry in book} for book in (base, one, other)]
    kept = {}
    for name in sorted(set().union(*tables)):
        b, x, y = [table.get(name, "none") for table in tables]
        if x == y:
            found = x
        elif x == b:
            found = y
        elif y == b:
            found = x
        else:
            return "name", name
        if found != "none":
            kept[name] = found
    times = sorted(entry.time for entry in kept.values())
    for time in times:
        if times.count(time) > 1:
            return "time", time
    return "book", kept


def drawn_branches(seed):
    """A book, and two that came from it by a few changes each."""
    dice = random.Random(seed)
    base = Book(GRID, [exact(10 * at, name) for at, name in enumerate("abcd")])
    books = []
    for _ in range(2):
        book = base
        for name in "abcdefg":
            if dice.random() < 0.3:
                if name in book:
                    book = book.without(name)
                time = 10 * dice.randint(0, 12) + 1
                if dice.random() < 0.7 and time not in [entry.time for entry in book]:
                    book = book.add(exact(time, name, dice.randint(1, 2)))
        books.append(book)
    return base, *books


class MergedTest(unittest.TestCase):
    def assertMerged(self, one, other, *wanted, base=BASE):
        """Both ways round."""
        for found in (merged(base, one, other), merged(base, other, one)):
            self.assertEqual(found, Book(GRID, wanted))

    def assertConflict(self, one, other, kind, what, base=BASE):
        for found in (merged(base, one, other), merged(base, other, one)):
            self.assertIsInstance(found, Conflict)
            self.assertEqual((found.kind, found.what), (kind, what))
            self.assertEqual(found, Conflict(kind, what))

    def test_each_case_for_a_name(self):
        changed = BASE.without("e").add(exact(2, "e", 7))
        moved = BASE.without("e").add(exact(9, "e"))
        self.assertMerged(BASE, BASE, X, exact(2, "e"))
        self.assertMerged(changed, BASE, X, exact(2, "e", 7))
        self.assertMerged(moved, BASE, X, exact(9, "e"))
        self.assertMerged(changed, changed, X, exact(2, "e", 7))
        self.assertConflict(changed, moved, "name", "e")
        self.assertConflict(changed, BASE.without("e"), "name", "e")
        self.assertMerged(BASE.without("e"), BASE, X)
        self.assertMerged(BASE.without("e"), BASE.without("e"), X)
        self.assertMerged(BASE.without("e"), BASE.without("x"))
        self.assertMerged(BASE.without("e"), BASE.add(exact(3, "f")), X, exact(3, "f"))

    def test_new_names(self):
        self.assertMerged(BASE.add(exact(3, "f")), BASE, X, exact(2, "e"), exact(3, "f"))
        self.assertMerged(BASE.add(exact(3, "f")), BASE.add(exact(4, "g")), X, exact(2, "e"), exact(3, "f"), exact(4, "g"))
        self.assertMerged(BASE.add(exact(3, "f")), BASE.add(exact(3, "f")), X, exact(2, "e"), exact(3, "f"))
        self.assertConflict(BASE.add(exact(3, "f")), BASE.add(exact(3, "f", 2)), "name", "f")
        self.assertConflict(BASE.add(exact(3, "f")), BASE.add(exact(4, "f")), "name", "f")
        self.assertConflict(BASE.add(exact(3, "f", 0)), BASE.add(Planned(3, "f", RED, 1)), "name", "f")
        self.assertConflict(BASE.add(Reading(3, "f", RED, 1, 1)), BASE.add(Planned(3, "f", RED, 1)), "name", "f")

    def test_times(self):
        self.assertConflict(BASE.add(exact(3, "f")), BASE.add(exact(3, "g")), "time", 3)
        self.assertConflict(BASE.add(exact(3, "f")), BASE.add(Planned(3, "g", RED, 1)), "time", 3)
        # One moves an entry to the time of a new one of the other, or away from it.
        moved = BASE.without("e").add(exact(5, "e"))
        self.assertConflict(moved, BASE.add(exact(5, "g")), "time", 5)
        self.assertMerged(moved.add(exact(2, "f")), BASE, X, exact(2, "f"), exact(5, "e"))
        self.assertMerged(moved.add(exact(2, "f")), BASE.add(exact(7, "g")), X, exact(2, "f"), exact(5, "e"), exact(7, "g"))
        self.assertMerged(BASE.without("e").add(exact(2, "f")), BASE, X, exact(2, "f"))

    def test_the_least_name_and_the_least_time(self):
        one = BASE.add(exact(9, "c", 1)).add(exact(8, "b", 1)).add(exact(5, "k"))
        other = BASE.add(exact(9, "c", 2)).add(exact(8, "b", 2)).add(exact(5, "m"))
        self.assertConflict(one, other, "name", "b")
        one = BASE.add(exact(9, "a")).add(exact(-8, "z")).add(exact(-10, "y"))
        other = BASE.add(exact(9, "b")).add(exact(-8, "c")).add(exact(10, "d"))
        self.assertConflict(one, other, "time", -8)
        # A conflict of names goes ahead, wherever it is.
        self.assertConflict(one.add(exact(50, "zz")), other.add(exact(51, "zz")), "name", "zz")

    def test_too_many(self):
        def row(letter, times):
            return [exact(time, letter + str(time), 0) for time in times]

        base = Book(GRID, row("b", range(10)))
        one, other = Book(GRID, [*base, *row("x", range(10, 20))]), Book(GRID, [*base, *row("y", range(20, 30))])
        self.assertEqual(len(merged(base, one, other)), 30)
        more = other.add(exact(30, "z"))
        looks = [Planned(time, "p" + str(time), RED, 1) for time in range(11)]
        rough = [Rough(time, "r" + str(time), GRID, 0, 0, 1) for time in range(5)]
        for left, right, most in [(one, more, 30), (Book(GRID, looks[:5]), Book(GRID, looks[5:]), 10),
                                  (Book(GRID, rough[:4]), Book(GRID, rough[4:]), 4)]:
            start = base if most == 30 else Book(GRID)
            for call in (merged, tangle):
                with self.assertRaises(TooMany) as caught:
                    call(start, left, right)
                self.assertEqual(caught.exception.most, most)
        # Conflicts go ahead of that.
        self.assertEqual(merged(base, one.add(exact(77, "q")), more.add(exact(78, "q"))), Conflict("name", "q"))
        self.assertEqual(merged(base, one, more.add(exact(15, "q"))), Conflict("time", 15))

    def test_other_grids(self):
        for books in ([FAR, BASE, BASE], [BASE, FAR, BASE], [BASE, BASE, FAR], [BASE, FAR, FAR], [FAR, FAR, BASE]):
            for call in (merged, tangle):
                with self.assertRaises(OtherGrid):
                    call(*books)
        self.assertEqual(merged(FAR, FAR, FAR), FAR)
        clash = Book(GRID, [X, Reading(3, "y", RED, 50, 1)])
        with self.assertRaises(OtherGrid):
            tangle(FAR, clash, clash)

    def test_against_the_rows_and_the_facts(self):
        kinds = {"book": 0, "name": 0, "time": 0}
        for seed in range(400):
            base, one, other = drawn_branches(seed)
            kind, wanted = merged_by_rows(base, one, other)
            found = merged(base, one, other)
            kinds[kind] += 1
            if kind == "book":
                self.assertEqual(found, Book(GRID, list(wanted.values())))
            else:
                self.assertEqual(found, Conflict(kind, wanted))
            self.assertEqual(merged(base, other, one), found)
            self.assertEqual([merged(base, one, base), merged(base, one, one), merged(base, base, one)], [one] * 3)
        self.assertGreater(min(kinds.values()), 20)

    def test_conflicts(self):
        one = Conflict("name", "a")
        self.assertEqual((one.kind, one.what), ("name", "a"))
        self.assertEqual(one, Conflict("name", "a"))
        for other in (Conflict("time", "a"), Conflict("name", "b"), Conflict("name", 1), Conflict(None, None)):
            self.assertTrue(one != other)
            self.assertFalse(one == other)
        for other in [*anything(), ("name", "a"), ["name", "a"]]:
            self.assertFalse(one == other)
            self.assertTrue(one != other)
        for what in anything():
            self.assertIs(Conflict(what, what).what, what)


class TangleTest(unittest.TestCase):
    def test_none_and_a_clash_of_both(self):
        one, other = BASE.without("e").add(exact(2, "buy", 10)), BASE.without("e").add(Reading(3, "y", RED, 5, 1))
        base = BASE.without("e")
        self.assertIsNone(tangle(base, one, one))
        self.assertIsNone(tangle(base, base, other))
        found = tangle(base, one, other)
        self.assertIs(type(found), dict)
        whole = merged(base, one, other)
        self.assertTrue(check_clash(whole, found))
        for branch in (one, other):
            self.assertFalse(check_clash(branch, found))

    def test_conflicts(self):
        self.assertEqual(tangle(BASE, BASE.add(exact(3, "f")), BASE.add(exact(3, "f", 2))), Conflict("name", "f"))
        self.assertEqual(tangle(BASE, BASE.add(exact(3, "f")), BASE.add(exact(3, "g", 2))), Conflict("time", 3))

    def test_errors_in_their_order(self):
        clash = BASE.add(Reading(7, "y", RED, 50, 1))
        full = Book(GRID, [Planned(time, "p" + str(time), RED, 1) for time in range(50, 59)])
        more = Book(GRID, [Planned(time, "p" + str(time), RED, 1) for time in range(57, 67)])
        for one, other in [(clash, BASE), (BASE, clash), (clash, clash), (clash, BASE.add(exact(7, "z")))]:
            with self.assertRaises(Clash):
                tangle(BASE, one, other)
        # A clash goes ahead of what is too many.
        with self.assertRaises(TooMany):
            tangle(Book(GRID), full, more)
        full = Book(GRID, [*list(full)[:8], Reading(1, "x", NOTHING, 5, 1)])
        with self.assertRaises(Clash):
            tangle(Book(GRID), full, more)
        # A clash of the base alone does not matter.
        self.assertIsNone(tangle(clash, BASE, BASE))

    def test_drawn_branches(self):
        found = {"clash": 0, "none": 0}
        for base, _, _ in small_cases(150, 43):
            maker = Maker(len(base))
            books = []
            for letter in "xy":
                more = [
                    Reading(20 + at * 2 + (letter == "y"), letter + str(at), maker.question(base.grid), maker.number(5), 3)
                    for at in range(2)
                ]
                books.append(Book(base.grid, [*base, *more]))
            one, other = books
            if reckoning.has_clash(one) or reckoning.has_clash(other):
                with self.assertRaises(Clash):
                    tangle(base, one, other)
                continue
            told = tangle(base, one, other)
            whole = merged(base, one, other)
            self.assertIs(told is None, not reckoning.has_clash(whole))
            found["none" if told is None else "clash"] += 1
            if told is not None:
                self.assertTrue(check_clash(whole, told))
                self.assertFalse(check_clash(one, told) or check_clash(other, told))
        self.assertGreater(min(found.values()), 5)


def row_of(*values):
    """Readings of red, each with a slip of 1, named a, b and so on."""
    return Book(GRID, [Reading(time, "abcdefghij"[time], RED, value, 1) for time, value in enumerate(values)])


def crowd(seed, cells):
    """Up to six readings that do not agree."""
    maker = Maker(seed)
    grid = Grid([("kind", ["a", "b", "c"][:cells])])
    return maker.book(grid, maker.dice.randint(3, 6), maker.dice.randint(0, 1), 1, 1, False)


CROWDS = [crowd(seed, 1 + seed % 2) for seed in range(60)]


def cut_by_all_lots(book):
    names = sorted(reading.name for reading in readings(book))
    for many in range(len(names) + 1):
        for lot in combinations(names, many):
            if not reckoning.has_clash(without(book, lot)):
                return lot
    return None


class CutTest(unittest.TestCase):
    def assertCut(self, book, wanted):
        found, paper = cut(book), cut_paper(book)
        self.assertEqual((type(found), type(paper)), (tuple, tuple))
        self.assertEqual(found, wanted)
        self.assertIs(check_cut(book, found, paper), True)
        nothing = nothing_of(book.grid)
        for clash in paper:
            self.assertIs(type(clash), dict)
            self.assertTrue(all(isinstance(book[name], Reading) for name in clash))
            self.assertTrue(reckoning.does_make(book, nothing, clash))
            price = reckoning.price(book, nothing, clash, None)
            self.assertGreater(abs(reckoning.center(book, nothing, clash, None)), price)
        names = [reading.name for reading in readings(book)]
        for many in range(len(found)):
            for lot in combinations(names, many):
                self.assertTrue(any(not any(clash.get(name, 0) != 0 for name in lot) for clash in paper))
        if found == ():
            self.assertEqual(paper, ())

    def test_by_hand(self):
        self.assertCut(row_of(5, 6, 9), ("c",))
        self.assertCut(row_of(5, 6, 7), ())
        self.assertCut(row_of(5, 8), ("a",))
        self.assertCut(row_of(5, 8, 11), ("a", "b"))
        self.assertCut(row_of(5, 5, 8, 8), ("a", "b"))
        self.assertCut(row_of(8, 5, 5, 8, 8), ("b", "c"))
        self.assertCut(row_of(*range(0, 24, 3)), tuple("abcdefg"))
        self.assertCut(Book(GRID), ())

    def test_what_no_other_reading_bears(self):
        self.assertCut(Book(GRID, [Reading(1, "x", NOTHING, 5, 1), Reading(2, "y", RED, 5, 1)]), ("x",))
        self.assertCut(Book(GRID, [Reading(1, "x", NOTHING, 5, 1), Reading(2, "b", RED, 5, 1), Reading(3, "a", RED, 9, 1)]),
                       ("a", "x"))

    def test_the_least_tuple(self):
        self.assertCut(Book(GRID, [Reading(1, "z", RED, 5, 1), Reading(2, "y", RED, 9, 1)]), ("y",))
        self.assertCut(Book(GRID, [Reading(1, "b10", RED, 5, 1), Reading(2, "b9", RED, 9, 1)]), ("b10",))

    def test_against_all_lots(self):
        sizes = []
        for number, book in enumerate([*CROWDS, *[book for book, _, _ in small_cases(60, 44)]]):
            with self.subTest(number):
                wanted = cut_by_all_lots(book)
                self.assertCut(book, wanted)
                sizes.append(len(wanted))
        for size in (0, 1, 2):
            self.assertGreater(sizes.count(size), 5)

    def test_full_books(self):
        for seed in range(8):
            book = Maker(seed).book(full_grid(), 8, 4, 16, 2, False)
            found = cut(book)
            self.assertTrue(check_cut(book, found, cut_paper(book)))
            if len(found) <= 3:
                self.assertEqual(excuses(book, 3)[0], found)

    def test_too_many(self):
        nine, eight = row_of(*range(0, 27, 3)), row_of(*range(0, 24, 3))
        for call in (lambda: cut(nine), lambda: cut_paper(nine), lambda: check_cut(nine, (), ()),
                     lambda: check_cut(nine, 5, None), lambda: cut(row_of(*[5] * 9))):
            with self.assertRaises(TooMany) as caught:
                call()
            self.assertEqual(caught.exception.most, 8)
        planned = [Planned(90, "p", RED, 0), Planned(91, "q", RED, 0)]
        self.assertCut(Book(GRID, [*eight, *planned]), tuple("abcdefg"))


class CheckTest(unittest.TestCase):
    def setUp(self):
        self.book = row_of(5, 8, 11, 8).add(Planned(90, "p", RED, 1)).add(exact(91, "e"))
        self.names, self.paper = cut(self.book), cut_paper(self.book)

    def check(self, names, paper):
        told = check_cut(self.book, names, paper)
        self.assertIn(told, [True, False])
        return told

    def test_the_answer_itself(self):
        self.assertEqual(self.names, ("a", "c"))
        self.assertTrue(self.check(self.names, self.paper))

    def test_other_names(self):
        wrong = [["a", "c"], ("c", "a"), ("a", "a"), ("a", "c", "c"), ("a", "a", "c"), ("a",), ("c",), (), ("a", "p"), ("a", "e"),
                 ("a", "c", "p"), ("a", "z"), ("a", 1), (b"a", b"c"), ("a", ("c",)), ("A", "C"), "ac", ("ac",), ("a", None),
                 {"a": 1, "c": 1}, ("a", "b"), ("b", "d"), *anything()]
        for names in wrong:
            with self.subTest(repr(names)):
                self.assertFalse(self.check(names, self.paper))

    def test_more_names_than_needed(self):
        # Three are enough to leave out, but no paper can show that two are not.
        self.assertFalse(self.check(("a", "b", "c"), self.paper))
        self.assertFalse(self.check(("a", "b", "c", "d"), self.paper))

    def test_another_lot_with_as_few_names(self):
        book = row_of(5, 8)
        paper = cut_paper(book)
        for names, wanted in [(("a",), True), (("b",), True), (("a", "b"), False), ((), False)]:
            self.assertIs(check_cut(book, names, paper), wanted)

    def test_other_papers(self):
        clash = self.paper[0]
        wrong = [list(self.paper), (), None, {}, clash, (clash,), [clash], tuple(list(clash) for clash in self.paper), *anything()]
        for other in [{}, None, [], {"a": 1}, {"a": 1, "b": 1}, {"a": 0, "b": 0}, {"a": 1, "b": -1, "p": 0}, {"z": 1}, {1: 1},
                      {"a": 1, "d": "-1"}, {"a": True, "d": -1}, {"a": 1, "d": None}, {"a": [1], "d": -1}, (), "ab", 5,
                      {None: 1}, {("a",): 1}, *[thing for thing in anything() if isinstance(thing, dict)]]:
            wrong.append((*self.paper, other))
            wrong.append((other, *self.paper))
        for paper in wrong:
            with self.subTest(repr(paper)):
                self.assertFalse(self.check(self.names, paper))

    def test_a_clash_left_out(self):
        left_out = 0
        for book in [self.book, *CROWDS]:
            names, paper = cut(book), cut_paper(book)
            lots = list(combinations([reading.name for reading in readings(book)], max(len(names) - 1, 0)))
            for place in range(len(paper)):
                fewer = paper[:place] + paper[place + 1:]
                wanted = all(any(not any(name in clash for name in lot) for clash in fewer) for lot in lots)
                self.assertIs(check_cut(book, names, fewer), wanted)
                left_out += not wanted
        self.assertGreater(left_out, 20)

    def test_further_clashes_and_other_weights(self):
        more = {"a": 1, "c": -1}
        self.assertTrue(self.check(self.names, (*self.paper, more)))
        self.assertTrue(self.check(self.names, (more, *self.paper, *self.paper)))
        zero = tuple({**clash, **{name: 0 for name in "abcd" if name not in clash}} for clash in self.paper)
        self.assertTrue(self.check(self.names, zero))
        twice = tuple({name: weight * -2 for name, weight in clash.items()} for clash in self.paper)
        self.assertTrue(self.check(self.names, twice))
        # Plain integers are numbers, too.
        pairs = [{"a": 1, "b": -1}, {"c": 1, "d": -1}]
        self.assertTrue(self.check(self.names, tuple(pairs)))
        self.assertFalse(self.check(self.names, (pairs[0],)))
        self.assertFalse(self.check(self.names, ({"a": 1, "b": -1}, {"b": -1, "c": 1})))
        self.assertFalse(self.check(self.names, (pairs[0], {"c": 1, "d": Ratio(-2)})))

    def test_a_book_without_a_clash(self):
        book = row_of(5, 6)
        self.assertTrue(check_cut(book, (), ()))
        for names, paper in [((), []), ([], ()), (("a",), ()), ((), ({},)), ((), ({"a": 1, "b": -1},)), ((), None)]:
            self.assertFalse(check_cut(book, names, paper))


if __name__ == "__main__":
    unittest.main()
