"""What looks are worth: [33]."""

import unittest

from tests import reckoning
from tests.makers import Maker, small_cases
from tests.others import anything, not_integers, words_that_are_no_names
from toldwithin.books import Book
from toldwithin.entries import Exact, Planned, Reading, Rough
from toldwithin.errors import NoName, NoTime, OtherGrid
from toldwithin.grids import Grid
from toldwithin.promises import least_error
from toldwithin.questions import Question, nothing_of
from toldwithin.ratios import Ratio
from toldwithin.worth import gain, useless

GRID = Grid([("kind", ["red", "blue"])])
RED, BLUE = Question(GRID, (1, 0)), Question(GRID, (0, 1))
NOTHING = nothing_of(GRID)
FAR = Question(Grid([("kind", ["red", "green"])]), (1, 0))
TINY = Ratio(1, 10 ** 60)
CASES = small_cases(150, 33)


def with_blue(slip, *more):
    """Without "b" the least error of the blue cell is 1 and 2 together."""
    return Book(GRID, [Planned(1, "all", RED + BLUE, 1), Reading(2, "eye", RED, 7, 2), Planned(3, "b", BLUE, slip), *more])


def looks(book):
    return reckoning.entries_of(book, Reading, Planned)


def pair_of(book, name, question, at):
    """By least errors of the tests' own."""
    found = [reckoning.least_error(other, question, at) for other in (book.without(name), book)]
    return tuple(number if number is None else reckoning.ratio(number) for number in found)


class UselessTest(unittest.TestCase):
    def test_slips_at_the_least_error(self):
        for slip, wanted in [(Ratio(3) - TINY, False), (3, True), (Ratio(3) + TINY, True), (2, False), (9, True), (0, False)]:
            self.assertIs(useless(with_blue(slip), "b"), wanted)

    def test_deeds_between_count(self):
        # Of the moment of "b" the red cell is known less well, by 4.
        entries = [Planned(1, "all", RED + BLUE, 1), Planned(2, "eye", RED, 2), Rough(3, "leak", GRID, 1, 0, 4)]
        for slip, wanted in [(6, False), (7, True)]:
            self.assertIs(useless(Book(GRID, [*entries, Planned(4, "b", BLUE, slip)]), "b"), wanted)
        for slip, wanted in [(2, False), (3, True)]:
            self.assertIs(useless(Book(GRID, [*entries, Planned(0, "b", BLUE, slip)]), "b"), wanted)
        # Exact deeds do not.
        entries[2] = Exact(3, "buy", GRID, (0, 4))
        self.assertIs(useless(Book(GRID, [*entries, Planned(4, "b", BLUE, 3)]), "b"), True)

    def test_questions_that_nothing_else_makes(self):
        for slip in (0, 1, 10 ** 50):
            book = Book(GRID, [Planned(1, "all", RED + BLUE, 0), Planned(2, "b", BLUE, slip)])
            self.assertIs(useless(book, "b"), False)
            self.assertIs(useless(book, "all"), False)
            self.assertIs(useless(Book(GRID, [Planned(2, "b", BLUE, slip)]), "b"), False)

    def test_the_question_with_all_weights_0(self):
        for slip in (0, 3):
            self.assertIs(useless(Book(GRID, [Planned(1, "n", NOTHING, slip)]), "n"), True)
            self.assertIs(useless(with_blue(0, Reading(9, "n", NOTHING, 100, slip)), "n"), True)

    def test_two_alike(self):
        book = Book(GRID, [Planned(1, "one", RED, 2), Planned(2, "two", RED, 2), Planned(3, "three", RED * 2, 3)])
        self.assertEqual([useless(book, name) for name in book.names()], [True, True, False])

    def test_values_do_not_matter(self):
        self.assertIs(useless(Book(GRID, [Reading(1, "x", RED, 5, 1), Reading(2, "y", RED, 900, 1)]), "y"), True)

    def test_the_fact(self):
        found = []
        for book, _, _ in CASES:
            for look in looks(book):
                least = reckoning.least_error(book.without(look.name), look.question, look.time)
                wanted = least is not None and least <= reckoning.fraction(look.slip)
                self.assertIs(useless(book, look.name), wanted)
                found.append(wanted)
        self.assertGreater(found.count(True), 40)
        self.assertGreater(found.count(False), 40)

    def test_least_errors_of_drawn_questions(self):
        maker = Maker(5)
        for book, _, _ in CASES:
            for look in looks(book):
                without = book.without(look.name)
                if useless(book, look.name):
                    made = [maker.question(book.grid), look.question, look.question * maker.number(3)]
                    for other in looks(book):
                        made.append(made[-1] + other.question * maker.number(2))
                    for question in made:
                        at = maker.moment()
                        self.assertEqual(least_error(without, question, at=at), least_error(book, question, at=at))
                else:
                    one = least_error(without, look.question, at=look.time)
                    self.assertNotEqual(one, least_error(book, look.question, at=look.time))


class GainTest(unittest.TestCase):
    def assertGain(self, found, *wanted):
        self.assertIs(type(found), tuple)
        self.assertEqual([number if number is None else number.text() for number in found], list(wanted))

    def test_by_hand(self):
        book = with_blue(2)
        self.assertGain(gain(book, "b", BLUE), "3", "2")
        self.assertGain(gain(book, "b", RED), "2", "2")
        self.assertGain(gain(book, "all", BLUE), "2", "2")
        self.assertGain(gain(book, "eye", RED - BLUE), "5", "4")
        self.assertGain(gain(book.without("b"), "eye", RED), None, "2")
        self.assertGain(gain(book.without("b").without("eye"), "all", BLUE), None, None)
        self.assertGain(gain(book, "all", NOTHING), "0", "0")

    def test_the_last_moment_is_that_of_the_whole_book(self):
        # The look is the last entry: behind it nothing is added.
        entries = [Planned(1, "x", RED, 1), Rough(2, "leak", GRID, 0, 0, 5), Planned(4, "y", RED, 2)]
        book = Book(GRID, entries)
        self.assertGain(gain(book, "y", RED), "6", "2")
        self.assertGain(gain(book, "y", RED, at=1), "1", "1")
        self.assertGain(gain(book, "y", RED, at=4), "6", "2")
        # Deeds stand behind it.
        longer = Book(GRID, [*entries, Rough(5, "more", GRID, 0, 0, 10), Exact(6, "buy", GRID, (1, 1))])
        self.assertGain(gain(longer, "y", RED), "16", "12")
        self.assertGain(gain(longer, "y", RED, at=4), "6", "2")
        self.assertGain(gain(longer, "x", RED), "12", "12")

    def test_against_the_reckoning(self):
        changed = 0
        for book, question, at in CASES:
            for look in looks(book):
                for asked in (question, look.question):
                    found = gain(book, look.name, asked, at=at)
                    self.assertEqual(found, pair_of(book, look.name, asked, at))
                    changed += found[0] != found[1]
        self.assertGreater(changed, 50)


class ErrorsTest(unittest.TestCase):
    def test_what_is_no_look(self):
        book = with_blue(1, Rough(5, "leak", GRID, 0, 0, 1), Exact(6, "buy", GRID, (1, 1)))
        for name in [*anything(), *words_that_are_no_names(), "leak", "buy", "eyes", "al", "B"]:
            for call in (lambda: useless(book, name), lambda: gain(book, name, RED), lambda: gain(book, name, FAR, at="x")):
                with self.subTest(repr(name)):
                    with self.assertRaises(NoName) as caught:
                        call()
                    self.assertIs(caught.exception.name, name)

    def test_their_order(self):
        book = with_blue(1)
        for at in [None, 1, *not_integers()]:
            with self.assertRaises(OtherGrid):
                gain(book, "b", FAR, at=at)
        for at in not_integers():
            if at is not None:
                with self.assertRaises(NoTime):
                    gain(book, "b", RED, at=at)
        with self.assertRaises(NoName):
            gain(book, "c", RED, at="x")


if __name__ == "__main__":
    unittest.main()
