"""Forgetting: [39], [40], [41]."""

import unittest
from itertools import combinations

from tests import reckoning
from tests.makers import Maker, full_book, small_cases
from tests.others import anything, not_sequences
from toldwithin.books import Book
from toldwithin.clashes import check_clash, clash_of
from toldwithin.entries import Exact, Planned, Reading, Rough
from toldwithin.errors import Clash, NoNames, NoQuestions, TooMany
from toldwithin.forgetting import enough, folded, lost, needless, trimmed
from toldwithin.grids import Grid
from toldwithin.promises import least_error
from toldwithin.questions import Question, nothing_of
from toldwithin.ratios import Ratio
from toldwithin.stretches import stretch

GRID = Grid([("kind", ["red", "blue"])])
RED, BLUE = Question(GRID, (1, 0)), Question(GRID, (0, 1))
NOTHING = nothing_of(GRID)
FAR_GRID = Grid([("kind", ["red", "green"])])
FAR = Question(FAR_GRID, (1, 0))
TINY = Ratio(1, 10 ** 60)
TOLD = [book for book, _, _ in small_cases(250, 39) if not reckoning.has_clash(book)]
CLASHING = Book(GRID, [Reading(1, "x", RED, 5, 1), Reading(2, "y", RED, 9, 1), Exact(3, "e", GRID, (1, 1))])


def readings(book):
    return reckoning.entries_of(book, Reading)


def without(book, names):
    return Book(book.grid, [entry for entry in book if entry.name not in names])


def crowded_book(seed):
    """Up to six readings of few questions, so that many tell what others tell; some history explains it."""
    maker = Maker(seed)
    grid = Grid([("kind", ["a", "b"][:maker.dice.randint(1, 2)])])
    asked = [maker.question(grid) for _ in range(2)]
    times = list(range(-1, 8))
    maker.dice.shuffle(times)
    entries = maker.deeds(grid, maker.dice.randint(0, 1), 1, 1, times)
    first = [maker.number(4) for _ in range(grid.size)]
    deeds = Book(grid, entries)
    for at in range(maker.dice.randint(3, 6)):
        question = maker.dice.choice(asked) * maker.dice.choice([1, 1, -2, Ratio(1, 2)])
        time, slip = times.pop(), Ratio(maker.dice.randint(0, 4), 2)
        known = [Ratio(0) + one for one in first]
        for deed in deeds:
            if deed.time <= time and isinstance(deed, Exact):
                known = [one + more for one, more in zip(known, deed.changes)]
            if deed.time <= time and isinstance(deed, Rough):
                known[deed.place] = known[deed.place] + deed.amount
        value = question.at(known) + slip * Ratio(maker.dice.randint(-2, 2), 2)
        entries.append(Reading(time, "l" + str(at), question, value, slip))
    return Book(grid, entries)


CROWDED = [crowded_book(seed) for seed in range(100)]


def same_stretches(book, other, maker, many=4):
    """Whether two books have the same stretches of the readings' questions, and of drawn ones, at drawn moments."""
    asked = [(reading.question, reading.time) for reading in readings(book)]
    asked += [(reading.question, maker.moment()) for reading in readings(book)]
    asked += [(maker.question(book.grid), maker.moment()) for _ in range(many)]
    return all(stretch(book, question, at=at) == stretch(other, question, at=at) for question, at in asked)


class NeedlessTest(unittest.TestCase):
    def assertNeedless(self, entries, *wanted):
        found = needless(Book(GRID, entries))
        self.assertIs(type(found), list)
        self.assertEqual(found, list(wanted))

    def test_saying_the_same_twice(self):
        twice = [Reading(1, "x", RED, 5, 1), Reading(2, "y", RED, 5, 1)]
        self.assertNeedless(twice, "x", "y")
        self.assertEqual(trimmed(Book(GRID, twice)).names(), ["x"])
        self.assertNeedless([*twice, Reading(3, "z", RED * -2, -10, 2)], "x", "y", "z")
        self.assertNeedless([twice[0]])
        self.assertNeedless([])

    def test_saying_less(self):
        # The others tell 4 to 6: at one end or at both the reading just touches that, or goes beyond.
        told = Reading(1, "x", RED, 5, 1)
        for value, slip, wanted in [
            (5, 2, ["y"]), (5, 1, ["x", "y"]), (5, Ratio(1) - TINY, ["x"]), (6, 2, ["y"]), (4, 2, ["y"]), (6, 1, []),
            (7, 3, ["y"]), (Ratio(7) + TINY, 3, []), (3, 3, ["y"]), (Ratio(3) - TINY, 3, []), (7, 1, []), (3, 1, []),
            (5, 0, ["x"]), (6, 0, ["x"]), (4, 0, ["x"]),
        ]:
            self.assertNeedless([told, Reading(2, "y", RED, value, slip)], *wanted)

    def test_deeds_between(self):
        told = [Reading(1, "x", RED, 5, 1), Rough(2, "leak", GRID, 0, -2, 1)]
        self.assertNeedless([*told, Reading(3, "y", RED, 3, 2)], "y")
        self.assertNeedless([*told, Reading(3, "y", RED, 3, Ratio(2) - TINY)])
        self.assertNeedless([*told, Reading(3, "y", RED, 3, 0)], "x")
        self.assertNeedless([*told, Reading(3, "y", RED, 3, TINY)])
        bought = [told[0], Exact(2, "buy", GRID, (10, 0)), Reading(3, "y", RED, 15, 1)]
        self.assertNeedless(bought, "x", "y")

    def test_each_alone_with_all_others(self):
        self.assertNeedless([Reading(1, "x", RED, 5, 1), Reading(2, "y", BLUE, 5, 1), Reading(3, "z", RED + BLUE, 10, 2)], "z")
        self.assertNeedless([Reading(1, "x", RED, 5, 0), Reading(2, "y", BLUE, 5, 0), Reading(3, "z", RED + BLUE, 10, 0)],
                            "x", "y", "z")

    def test_the_question_with_all_weights_0(self):
        self.assertNeedless([Reading(1, "x", NOTHING, 0, 0), Reading(2, "y", NOTHING, 1, 1)], "x", "y")

    def test_by_the_definition(self):
        counts = {True: 0, False: 0}
        maker = Maker(8)
        for number, book in enumerate([*TOLD, *CROWDED]):
            found = needless(book)
            self.assertEqual(found, [name for name in book.names() if name in found])
            for reading in readings(book):
                left = book.without(reading.name)
                ends = [reckoning.stretch(other, reading.question, reading.time) for other in (left, book)]
                with self.subTest(number):
                    self.assertIs(reading.name in found, ends[0] == ends[1])
                counts[reading.name in found] += 1
                if reading.name in found:
                    self.assertTrue(same_stretches(book, left, maker))
        self.assertGreater(min(counts.values()), 100)

    def test_the_fact(self):
        for book in CROWDED[:40]:
            for reading in readings(book):
                ends = stretch(book.without(reading.name), reading.question, at=reading.time)
                low, high = reading.value - reading.slip, reading.value + reading.slip
                self.assertIs(reading.name in needless(book), ends is not None and low <= ends[0] and ends[1] <= high)

    def test_clash(self):
        for call in (needless, trimmed):
            with self.assertRaises(Clash):
                call(CLASHING)
            with self.assertRaises(Clash):
                call(Book(GRID, [Reading(1, "x", NOTHING, 5, 1)]))


class TrimmedTest(unittest.TestCase):
    def test_by_a_going_through(self):
        smaller = 0
        maker = Maker(9)
        for number, book in enumerate([*TOLD, *CROWDED]):
            left = book
            for reading in sorted(readings(book), key=lambda entry: -entry.time):
                ends = [reckoning.stretch(other, reading.question, reading.time) for other in (left.without(reading.name), left)]
                if ends[0] == ends[1]:
                    left = left.without(reading.name)
            with self.subTest(number):
                self.assertEqual(trimmed(book), left)
            smaller += len(left) < len(book)
            self.assertTrue(same_stretches(book, left, maker))
            self.assertEqual(needless(left), [])
        self.assertGreater(smaller, 60)

    def test_other_entries_stay(self):
        entries = [Reading(1, "x", RED, 5, 1), Planned(2, "p", RED, 1), Planned(3, "q", RED, 1), Exact(4, "e", GRID, (0, 0)),
                   Rough(5, "r", GRID, 0, 0, 0), Reading(6, "y", RED, 5, 1), Reading(7, "z", RED, 5, 2)]
        self.assertEqual(trimmed(Book(GRID, entries)), Book(GRID, entries[:5]))
        self.assertEqual(needless(Book(GRID, entries)), ["x", "y", "z"])
        self.assertEqual(trimmed(Book(GRID)), Book(GRID))

    def test_the_last_one_goes_first(self):
        wide, narrow = Reading(1, "x", RED, 5, 2), Reading(2, "y", RED, 5, 1)
        self.assertEqual(trimmed(Book(GRID, [wide, narrow])).names(), ["y"])
        both = [Reading(1, "x", RED, 5, 0), Reading(2, "y", BLUE, 5, 0), Reading(3, "z", RED + BLUE, 10, 0)]
        self.assertEqual(trimmed(Book(GRID, both)).names(), ["x", "y"])

    def test_full_books(self):
        for seed in range(6):
            book = full_book(seed)
            left = trimmed(book)
            self.assertEqual(left.names(), [name for name in book.names() if name in left.names()])
            self.assertTrue(same_stretches(book, left, Maker(seed)))


class LostTest(unittest.TestCase):
    def test_by_hand(self):
        book = Book(GRID, [
            Reading(1, "x", RED, 5, 1), Reading(2, "y", RED, 5, 1), Reading(3, "z", RED, 5, 3), Reading(4, "b", BLUE, 1, 1),
        ])
        for names, wanted in [
            ([], []), (["x"], []), (["y"], []), (["x", "y"], ["x", "y"]), (["y", "x"], ["x", "y"]), (["z"], []),
            (["z", "x", "y"], ["x", "y", "z"]), (["z", "x"], []), (["b"], ["b"]), (["b", "x"], ["b"]),
            (["b", "z", "b", "z"], ["b"]), (["x", "x", "x"], []),
        ]:
            for told in (names, tuple(names)):
                found = lost(book, told)
                self.assertIs(type(found), list)
                self.assertEqual(found, wanted)

    def test_the_fact(self):
        maker = Maker(10)
        counts = {True: 0, False: 0}
        for book in [*TOLD[:120], *CROWDED]:
            names = [reading.name for reading in readings(book)]
            for many in range(1, min(3, len(names)) + 1):
                told = maker.dice.sample(names, many)
                left = without(book, told)
                found = lost(book, told)
                wanted = [
                    reading.name for reading in readings(book) if reading.name in told
                    and reckoning.stretch(left, reading.question, reading.time)
                    != reckoning.stretch(book, reading.question, reading.time)
                ]
                self.assertEqual(found, wanted)
                counts[found == []] += 1
                if not found:
                    self.assertTrue(same_stretches(book, left, maker))
        self.assertGreater(min(counts.values()), 60)

    def test_errors(self):
        book = Book(GRID, [Reading(1, "x", RED, 5, 1), Planned(2, "p", RED, 1), Exact(3, "e", GRID, (1, 1)),
                           Rough(4, "r", GRID, 0, 0, 1)])
        wrong = [*not_sequences(), ["p"], ["e"], ("r",), ["x", "p"], ["y"], ["X"], [""], [1], [None], [["x"]], [("x",)],
                 [b"x"], [{}], [book["x"]], ["x", True], ("x", Ratio(1))]
        for names in wrong:
            with self.subTest(repr(names)):
                for one in (book, book.add(Reading(9, "y2", RED, 99, 0))):
                    with self.assertRaises(NoNames):
                        lost(one, names)
        for names in ([], ["x"], ("x", "y")):
            with self.assertRaises(Clash):
                lost(CLASHING, names)

    def test_the_argument_stays(self):
        names = ["y", "x", "y"]
        book = Book(GRID, [Reading(1, "x", RED, 5, 1), Reading(2, "y", RED, 5, 1)])
        lost(book, names)
        self.assertEqual(names, ["y", "x", "y"])


class EnoughTest(unittest.TestCase):
    def assertEnough(self, entries, questions, *wanted):
        found = enough(Book(GRID, entries), questions)
        self.assertIs(type(found), tuple)
        self.assertEqual(found, wanted)

    def test_by_hand(self):
        told = [Reading(1, "x", RED, 5, 1), Reading(2, "y", RED, 6, 1), Reading(3, "a", BLUE, 1, 1), Reading(4, "b", BLUE, 1, 1)]
        self.assertEnough(told, [RED], "x", "y")
        self.assertEnough(told, [RED * -3], "x", "y")
        self.assertEnough(told, [BLUE], "a")
        self.assertEnough(told, (RED, BLUE), "a", "x", "y")
        self.assertEnough(told, [RED + BLUE], "a", "x", "y")
        self.assertEnough(told, [BLUE, BLUE, BLUE], "a")
        self.assertEnough(told[2:], [RED, BLUE], "a")

    def test_no_reading_at_all(self):
        told = [Reading(1, "x", RED, 5, 1), Reading(2, "y", BLUE, 6, 1)]
        self.assertEnough(told, [NOTHING])
        self.assertEnough(told[:1], [BLUE, NOTHING])
        self.assertEnough(told[:1], [RED + BLUE, RED - BLUE, BLUE])
        self.assertEnough([], [RED])

    def test_the_least_of_several(self):
        same = [Reading(at, name, RED, 5, 1) for at, name in enumerate(["d", "b", "c"])]
        self.assertEnough(same, [RED], "b")
        more = [*same, Reading(7, "a", BLUE, 5, 0), Reading(8, "z", RED + BLUE, 10, 1)]
        self.assertEnough(more, [RED + BLUE], "z")
        self.assertEnough(more, [RED], "b")
        self.assertEnough(more, [RED, BLUE], "a", "b")

    def test_the_moment_behind_all_entries_of_the_whole_book(self):
        # Behind the last deed only "y", which is read behind the leak, tells the narrow stretch.
        told = [Reading(1, "x", RED, 5, 1), Rough(2, "leak", GRID, 0, 0, 1), Reading(3, "y", RED, 5, 1)]
        self.assertEnough(told, [RED], "y")
        late = [*told, Exact(9, "buy", GRID, (4, 0)), Rough(10, "more", GRID, 0, 0, 5)]
        self.assertEnough(late, [RED], "y")
        # There a late reading tells just the same as "y" does.
        self.assertEnough([*late, Reading(11, "a", RED, 9, 6)], [RED], "a")
        self.assertEnough([*late, Reading(11, "z", RED, 9, 6)], [RED], "y")

    def test_against_all_lots(self):
        sizes = []
        for number, book in enumerate([*TOLD[:80], *CROWDED]):
            maker = Maker(number)
            questions = [maker.question(book.grid) for _ in range(maker.dice.randint(1, 2))]
            if readings(book):
                questions[0] = maker.dice.choice(readings(book)).question * maker.number(2)
            wanted = [reckoning.stretch(book, question, None) if reckoning.combined(
                reckoning.lines_of(book, Reading), reckoning.line_of(book, question, None)) else None for question in questions]
            names = sorted(reading.name for reading in readings(book))
            lots = [lot for many in range(len(names) + 1) for lot in combinations(names, many)]
            for lot in lots:
                left = without(book, [name for name in names if name not in lot])
                found = []
                for question in questions:
                    told = reckoning.combined(reckoning.lines_of(left, Reading), reckoning.line_of(left, question, None))
                    found.append(reckoning.stretch(left, question, None) if told else None)
                if found == wanted:
                    break
            with self.subTest(number):
                self.assertEqual(enough(book, questions), lot)
            sizes.append(len(lot))
        for size in (0, 1, 2):
            self.assertGreater(sizes.count(size), 10)
        self.assertGreater(max(sizes), 2)

    def test_errors_in_their_order(self):
        many = [Reading(at, "x" + str(at), RED, 5, 1) for at in range(8)]
        clash = [*many[:6], Reading(9, "y", RED, 50, 1)]
        for entries in (many, many[:7], clash):
            book = Book(GRID, entries)
            for other in [*not_sequences(), [], (), [RED] * 4]:
                with self.assertRaises(NoQuestions) as caught:
                    enough(book, other)
                self.assertEqual(caught.exception.place, -1)
            for other in [thing for thing in anything() if not isinstance(thing, Question)] + [FAR]:
                for place, questions in [(0, [other]), (1, (RED, other)), (1, [NOTHING, other, other]), (2, [RED, RED, other])]:
                    with self.assertRaises(NoQuestions) as caught:
                        enough(book, questions)
                    self.assertEqual(caught.exception.place, place)
        for entries in (many, [*many[:7], clash[-1]]):
            with self.assertRaises(TooMany) as caught:
                enough(Book(GRID, entries), [RED])
            self.assertEqual(caught.exception.most, 7)
        with self.assertRaises(Clash):
            enough(Book(GRID, clash), [NOTHING])
        # Seven are let, and planned ones do not count.
        planned = [Planned(at, "p" + str(at), RED, 0) for at in range(20, 23)]
        self.assertEnough([*many[:7], *planned], [RED], "x0")

    def test_seven_that_all_are_needed(self):
        grid = Grid([("year", ["a", "b", "c", "d"]), ("kind", ["red", "blue"])])
        asked = [Question(grid, [int(place == at) for place in range(8)]) for at in range(7)]
        book = Book(grid, [Reading(at, "x" + str(at), asked[at], at, 1) for at in range(7)])
        whole = asked[0]
        for question in asked[1:]:
            whole = whole + question
        self.assertEqual(enough(book, [whole]), tuple("x" + str(at) for at in range(7)))
        self.assertEqual(enough(book, [asked[3], asked[5]]), ("x3", "x5"))


class FoldedTest(unittest.TestCase):
    def exact(self, time, *changes):
        return Exact(time, "e" + str(time), GRID, changes)

    def assertFolded(self, entries, *wanted):
        found = folded(Book(GRID, entries))
        self.assertEqual(found, Book(GRID, wanted))
        self.assertEqual(folded(found), found)

    def test_rows(self):
        look = Reading(10, "x", RED, 5, 1)
        first, last = [self.exact(1, 1, 2), self.exact(2, 3, 4)], [self.exact(11, 5, 0), self.exact(20, 0, Ratio(1, 2))]
        self.assertFolded([*first, look], self.exact(2, 4, 6), look)
        self.assertFolded([look, *last], look, self.exact(20, 5, Ratio(1, 2)))
        self.assertFolded([*first, look, *last], self.exact(2, 4, 6), look, self.exact(20, 5, Ratio(1, 2)))
        self.assertFolded([*first, *last], self.exact(20, 9, Ratio(13, 2)))
        between = Reading(30, "y", RED, 5, 1)
        self.assertFolded([look, *last, between], look, self.exact(20, 5, Ratio(1, 2)), between)
        self.assertFolded([first[0]], first[0])
        self.assertFolded([])

    def test_what_breaks_a_row(self):
        one, two = self.exact(1, 1, 1), self.exact(9, 2, 2)
        for entry in (Reading(5, "x", RED, 5, 1), Planned(5, "x", RED, 1), Rough(5, "x", GRID, 0, 0, 0),
                      Rough(5, "x", GRID, 0, 3, 1), Reading(5, "x", NOTHING, 0, 1)):
            self.assertFolded([one, entry, two], one, entry, two)
            self.assertFolded([one, self.exact(2, 1, 0), entry, two, self.exact(10, -1, 0)],
                              self.exact(2, 2, 1), entry, self.exact(10, 1, 2))

    def test_sums_of_0(self):
        look = Planned(5, "p", RED, 1)
        self.assertFolded([self.exact(1, 0, 0)])
        self.assertFolded([self.exact(1, 0, 0), look], look)
        self.assertFolded([self.exact(1, 1, -2), self.exact(2, -1, 2)])
        self.assertFolded([self.exact(1, 1, -2), self.exact(2, -1, 2), look, self.exact(7, 1, 0)], look, self.exact(7, 1, 0))
        self.assertFolded([self.exact(1, 1, -2), self.exact(2, -1, 3)], self.exact(2, 0, 1))
        self.assertFolded([self.exact(1, 1, 1), self.exact(2, 0, 0)], self.exact(2, 1, 1))
        # What breaks a row breaks it also where a row next to it comes to nothing.
        self.assertFolded([self.exact(1, 1, 0), look, self.exact(6, 0, 0), Planned(7, "q", RED, 1), self.exact(8, 1, 0)],
                          self.exact(1, 1, 0), look, Planned(7, "q", RED, 1), self.exact(8, 1, 0))

    def test_the_facts(self):
        folds = 0
        for number in range(60):
            maker = Maker(number)
            grid = Grid([("kind", ["a", "b"])])
            book = maker.book(grid, maker.dice.randint(0, 3), maker.dice.randint(0, 2), 6, 1, number % 3 > 0)
            short = folded(book)
            folds += len(short) < len(book)
            self.assertEqual(folded(short), short)
            clash, other = clash_of(book), clash_of(short)
            self.assertIs(clash is None, other is None)
            if clash is not None:
                self.assertTrue(check_clash(short, clash))
                self.assertTrue(check_clash(book, other))
            for at in [None, *[entry.time for entry in book if not isinstance(entry, Exact)]]:
                question = maker.question(grid)
                self.assertEqual(least_error(book, question, at=at), least_error(short, question, at=at))
                if clash is None:
                    self.assertEqual(stretch(book, question, at=at), stretch(short, question, at=at))
        self.assertGreater(folds, 40)

    def test_a_clash_does_not_matter(self):
        self.assertEqual(folded(CLASHING), CLASHING)


if __name__ == "__main__":
    unittest.main()
