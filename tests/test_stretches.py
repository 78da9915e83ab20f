import unittest

from tests import reckoning
from tests.makers import small_cases
from tests.others import anything, not_integers, not_numbers
from toldwithin.books import Book
from toldwithin.entries import Exact, Planned, Reading, Rough
from toldwithin.errors import Clash, Endless, NoNumber, NoSide, NoTime, NoWeights, OtherGrid
from toldwithin.grids import Grid
from toldwithin.histories import History, explains
from toldwithin.promises import least_error
from toldwithin.questions import Question, nothing_of
from toldwithin.ratios import Ratio
from toldwithin.stretches import (
    End, center_of, check_drift, check_end, drift_of, ends_of, estimate, history_with, some_history, stretch,
)

GRID = Grid([("kind", ["red", "blue"])])
RED, BLUE = Question(GRID, (1, 0)), Question(GRID, (0, 1))
BOTH = RED + BLUE
FAR = Question(Grid([("kind", ["red", "green"])]), (1, 0))
HALF = Ratio(1, 2)
TINY = Ratio(1, 10 ** 100)
CASES = small_cases(250, 2)
TOLD = [(book, question, at) for book, question, at in CASES if not reckoning.has_clash(book)]
CLASHING = [(book, question, at) for book, question, at in CASES if reckoning.has_clash(book)]


def example():
    return Book(GRID, [Reading(1, "all", BOTH, 10, 1), Rough(2, "leak", GRID, 0, -2, 1), Reading(4, "eye", RED, 3, 2)])


def clashing():
    return Book(GRID, [Reading(1, "x", RED, 5, 1), Reading(2, "y", RED, 9, 1)])


def not_moments():
    return [other for other in [*not_integers(), "x"] if other is not None]


class StretchCase(unittest.TestCase):
    def assertStretch(self, found, low, high):
        self.assertIs(type(found), tuple)
        self.assertEqual([type(end) for end in found], [Ratio, Ratio])
        self.assertEqual(tuple(reckoning.fractions(found)), (low, high))


class EndsTest(StretchCase):
    def test_the_cases_are_of_both_kinds(self):
        self.assertGreater(len(TOLD), 150)
        self.assertGreater(len(CLASHING), 20)
        endless = [number for number, case in enumerate(TOLD) if reckoning.stretch(*case) is None]
        self.assertTrue(40 < len(endless) < len(TOLD) - 40)

    def test_against_the_reckoning(self):
        for number, (book, question, at) in enumerate(TOLD):
            with self.subTest(number):
                found, wanted = stretch(book, question, at=at), reckoning.stretch(book, question, at)
                if wanted is None:
                    self.assertIsNone(found)
                else:
                    self.assertStretch(found, *wanted)

    def assertEnd(self, book, question, at, end, number, sign):
        self.assertIs(type(end), End)
        self.assertIs(type(end.number), Ratio)
        self.assertEqual(end.number, number)
        self.assertTrue(reckoning.does_make(book, question, end.weights))
        self.assertTrue(all(isinstance(book[name], Reading) for name in end.weights))
        told = reckoning.center(book, question, end.weights, at)
        price = reckoning.price(book, question, end.weights, at)
        self.assertEqual(told + sign * price, reckoning.fraction(number))
        self.assertTrue(reckoning.does_explain(book, end.history))
        amounts = reckoning.amounts(book, end.history, at)
        self.assertEqual(reckoning.answer(question, amounts), reckoning.fraction(number))

    def test_both_ends_are_shown(self):
        for number, (book, question, at) in enumerate(TOLD):
            with self.subTest(number):
                found, wanted = ends_of(book, question, at=at), stretch(book, question, at=at)
                if wanted is None:
                    self.assertIsNone(found)
                    continue
                self.assertIs(type(found), tuple)
                for is_high, sign in [(False, -1), (True, 1)]:
                    self.assertEnd(book, question, at, found[is_high], wanted[is_high], sign)
                    self.assertIs(check_end(book, question, is_high, found[is_high], at=at), True)
                    other = check_end(book, question, not is_high, found[is_high], at=at)
                    self.assertIs(other, wanted[0] == wanted[1] and other)

    def test_the_same_choice_every_time(self):
        for book, question, at in TOLD[:60]:
            again = Book(Grid(list(book.grid.axes)), list(reversed(book.entries)))
            asked = Question(again.grid, list(question.weights))
            self.assertEqual(ends_of(book, question, at=at), ends_of(again, asked, at=at))
            self.assertEqual(some_history(book), some_history(again))
            self.assertEqual(drift_of(book, question), drift_of(again, asked))

    def test_each_moment_of_the_example(self):
        for at, low, high in [(None, 1, 5), (99, 1, 5), (4, 1, 5), (2, 1, 5), (1, 2, 8), (0, 2, 8), (-10 ** 30, 2, 8)]:
            self.assertStretch(stretch(example(), RED, at=at), low, high)

    def test_endless_at_each_moment(self):
        book = example().without("eye")
        for at in (None, 0, 1, 2, 3, 9):
            self.assertIsNone(stretch(book, RED, at=at))
            self.assertIsNone(ends_of(book, RED, at=at))
            self.assertIsNotNone(stretch(book, BOTH, at=at))
        for book, question, _ in TOLD:
            found = [stretch(book, question, at=at) is None for at in (None, -9, 0, 2, 4)]
            self.assertEqual(len(set(found)), 1)

    def test_planned_ones_tell_nothing(self):
        for book, question, at in TOLD:
            told = Book(book.grid, [entry for entry in book if not isinstance(entry, Planned)])
            self.assertEqual(stretch(book, question, at=at), stretch(told, question, at=at))

    def test_the_width_and_the_least_error(self):
        for book, question, at in TOLD:
            found = stretch(book, question, at=at)
            told = Book(book.grid, [entry for entry in book if not isinstance(entry, Planned)])
            least = least_error(told, question, at=at)
            self.assertEqual(found is None, least is None)
            if found is not None:
                self.assertLessEqual(found[1] - found[0], least * 2)

    def test_a_book_without_readings(self):
        book = Book(GRID, [Rough(1, "a", GRID, 0, 9, 1), Exact(2, "b", GRID, (1, 2)), Planned(3, "c", RED, 0)])
        for empty in (Book(GRID), book):
            for at in (None, 0, 1, 9):
                self.assertIsNone(stretch(empty, RED, at=at))
                self.assertStretch(stretch(empty, nothing_of(GRID), at=at), 0, 0)
                ends = ends_of(empty, nothing_of(GRID), at=at)
                self.assertEqual([end.number for end in ends], [0, 0])
                self.assertTrue(check_end(empty, nothing_of(GRID), True, ends[1], at=at))

    def test_slips_and_bounds_of_zero(self):
        entries = [
            Reading(1, "x", BOTH, 10, 0), Rough(2, "a", GRID, 0, 5, 0), Exact(3, "b", GRID, (1, HALF)),
            Reading(4, "y", RED - BLUE, Ratio(3, 2), 0),
        ]
        book = Book(GRID, entries)
        # red + blue is 10 at first, and red - blue is then 3/2 less what the deeds changed, 5 + 1 - 1/2.
        self.assertStretch(stretch(book, RED, at=0), 3, 3)
        self.assertStretch(stretch(book, BLUE, at=0), 7, 7)
        self.assertStretch(stretch(book, RED), 9, 9)
        self.assertStretch(stretch(book, BLUE), 7.5, 7.5)

    def test_readings_that_just_hold_together(self):
        for slip, other in [(1, 3), (Ratio(3, 2), Ratio(5, 2)), (0, 4), (TINY, Ratio(4) - TINY)]:
            book = Book(GRID, [Reading(1, "x", RED, 5, slip), Reading(2, "y", RED, 9, other)])
            edge = reckoning.fraction(Ratio(5) + slip)
            self.assertStretch(stretch(book, RED), edge, edge)
            self.assertTrue(explains(book, some_history(book)))
            book = Book(GRID, [Reading(1, "x", RED, 5, slip), Reading(2, "y", RED, TINY + 9, other)])
            with self.assertRaises(Clash):
                stretch(book, RED)

    def test_a_reading_of_nothing(self):
        for value, slip, is_told in [(0, 0, True), (1, 1, True), (-1, 1, True), (TINY + 1, 1, False), (1, 0, False)]:
            book = Book(GRID, [Reading(1, "x", nothing_of(GRID), value, slip), Reading(2, "y", RED, 5, 1)])
            if is_told:
                self.assertStretch(stretch(book, RED), 4, 6)
                self.assertIsNone(stretch(book, BLUE))
            else:
                for question in (RED, BLUE):
                    with self.assertRaises(Clash):
                        stretch(book, question)


class ErrorTest(StretchCase):
    def timed_calls(self):
        return [
            stretch, ends_of, estimate,
            lambda book, question, *, at=None: center_of(book, question, None, at=at),
            lambda book, question, *, at=None: check_end(book, question, True, None, at=at),
            lambda book, question, *, at=None: history_with(book, question, 1, at=at),
        ]

    def test_other_grids_go_ahead_of_all(self):
        for book in (example(), clashing()):
            for call in self.timed_calls():
                for at in (None, 1, True, "x"):
                    with self.assertRaises(OtherGrid):
                        call(book, FAR, at=at)
            for call in (drift_of, lambda told, question: check_drift(told, question, None)):
                with self.assertRaises(OtherGrid):
                    call(book, FAR)
            for other in (None, 1):
                with self.assertRaises(OtherGrid):
                    history_with(book, FAR, other, at="x")
                with self.assertRaises(OtherGrid):
                    check_end(book, FAR, other, None, at="x")

    def test_no_time_goes_ahead_of_clashes_and_weights(self):
        for book in (example(), clashing()):
            for call in self.timed_calls():
                for other in not_moments():
                    with self.subTest(repr(other)):
                        with self.assertRaises(NoTime):
                            call(book, RED, at=other)

    def test_clashes(self):
        for question in (RED, BLUE, BOTH, nothing_of(GRID)):
            for call in (stretch, ends_of, estimate, lambda book, asked, *, at=None: history_with(book, asked, 1, at=at)):
                for at in (None, 0, 1, 2):
                    with self.assertRaises(Clash):
                        call(clashing(), question, at=at)
            with self.assertRaises(Clash):
                drift_of(clashing(), question)
        with self.assertRaises(Clash):
            some_history(clashing())
        for book, question, at in CLASHING:
            for told in (
                lambda: stretch(book, question, at=at), lambda: ends_of(book, question, at=at),
                lambda: some_history(book), lambda: drift_of(book, question), lambda: estimate(book, question, at=at),
                lambda: history_with(book, question, 0, at=at),
            ):
                with self.assertRaises(Clash):
                    told()

    def test_the_moment_is_a_keyword(self):
        for call in (stretch, ends_of, estimate):
            with self.assertRaises(TypeError):
                call(example(), RED, 1)


class CenterTest(StretchCase):
    def test_by_the_sums(self):
        checked = 0
        for book, question, at in TOLD:
            for end in ends_of(book, question, at=at) or ():
                checked += 1
                for moment in (at, None, -9, 0, 2, 4):
                    found = center_of(book, question, end.weights, at=moment)
                    self.assertIs(type(found), Ratio)
                    wanted = reckoning.center(book, question, end.weights, moment)
                    self.assertEqual(reckoning.fraction(found), wanted)
        self.assertGreater(checked, 100)

    def test_by_hand(self):
        book = example().add(Exact(3, "buy", GRID, (4, 1)))
        for question, weights, at, wanted in [
            # "eye" told 3 where the known change was -2 + 4.
            (RED, {"eye": 1}, None, 3), (RED, {"eye": 1}, 4, 3), (RED, {"eye": 1}, 2, -1), (RED, {"eye": 1}, 1, 1),
            (BOTH, {"all": 1}, 1, 10), (BOTH, {"all": 1}, None, 13), (BOTH, {"all": 1}, 2, 8),
            (BLUE, {"all": 1, "eye": -1}, 1, 9), (BLUE, {"all": Ratio(1), "eye": Ratio(-1)}, None, 10),
            (nothing_of(GRID), {}, None, 0), (nothing_of(GRID), {"eye": 0}, 1, 0), (RED * HALF, {"eye": HALF}, None, 1.5),
        ]:
            self.assertEqual(reckoning.fraction(center_of(book, question, weights, at=at)), wanted)

    def test_in_a_book_with_a_clash(self):
        self.assertEqual(center_of(clashing(), RED, {"x": 1}), 5)
        self.assertEqual(center_of(clashing(), RED, {"x": 2, "y": -1}), 1)
        self.assertEqual(center_of(clashing(), nothing_of(GRID), {"x": 1, "y": -1}), -4)

    def assertNoWeights(self, weights, question=RED):
        book = example().add(Planned(9, "plan", RED, 1)).add(Exact(10, "buy", GRID, (1, 1)))
        for at in (None, 1):
            with self.assertRaises(NoWeights):
                center_of(book, question, weights, at=at)

    def test_a_planned_one_in_the_combination(self):
        self.assertNoWeights({"plan": 1})
        self.assertNoWeights({"eye": 1, "plan": 0})
        self.assertNoWeights({"plan": 0}, nothing_of(GRID))

    def test_what_is_no_combination(self):
        for weights in [{}, {"eye": 2}, {"all": 1}, {"leak": 1}, {"eye": 1, "leak": 0}, {"eye": 1, "buy": 0},
                        {"eye": 1, "x": 0}, {"eye": TINY + 1}, {"eye": 1, "all": TINY}, {"eye": 1, 5: 0}]:
            self.assertNoWeights(weights)
        for other in not_numbers():
            self.assertNoWeights({"eye": other})
        for other in anything():
            if not isinstance(other, dict):
                self.assertNoWeights(other)
                self.assertNoWeights(other, nothing_of(GRID))


class CheckEndTest(StretchCase):
    def test_anything(self):
        for book in (example(), Book(GRID), clashing()):
            for question in (RED, nothing_of(GRID)):
                for is_high in (True, False):
                    for other in anything():
                        with self.subTest(repr(other)):
                            self.assertIs(check_end(book, question, is_high, other), False)

    def test_anything_in_an_end(self):
        book = example()
        for is_high in (True, False):
            end = ends_of(book, RED)[is_high]
            for other in anything():
                with self.subTest(repr(other)):
                    is_same = type(other) in (int, Ratio) and other == end.number
                    self.assertIs(check_end(book, RED, is_high, End(other, end.weights, end.history)), is_same)
                    self.assertIs(check_end(book, RED, is_high, End(end.number, other, end.history)), False)
                    self.assertIs(check_end(book, RED, is_high, End(end.number, end.weights, other)), False)

    def test_the_low_of_the_example(self):
        history = History((2, 9), {"leak": 1})
        for number, weights, first, wanted in [
            (1, {"eye": 1}, (2, 8), True), (Ratio(1), {"eye": Ratio(1), "all": 0}, (2, 8), True),
            (TINY + 1, {"eye": 1}, (2, 8), False), (Ratio(1) - TINY, {"eye": 1}, (2, 8), False),
            (1, {"eye": 1}, (TINY + 2, 8), False), (1, {"eye": 1}, (2, 20), False), (1, {"eye": 1}, (2,), False),
            (1, {"all": 1}, (2, 8), False), (1, {}, (2, 8), False), (1, {"leak": 1}, (2, 8), False),
            (True, {"eye": 1}, (2, 8), False), (None, {"eye": 1}, (2, 8), False), ("1", {"eye": 1}, (2, 8), False),
        ]:
            end = End(number, weights, History(first, {"leak": 1}))
            self.assertIs(check_end(example(), RED, False, end), wanted)
            self.assertIs(check_end(example(), RED, True, end), False)
        self.assertIs(check_end(example(), RED, False, End(1, {"eye": 1}, history)), True)
        self.assertIs(check_end(example(), RED, False, End(1, {"eye": 1}, history), at=1), False)

    def test_a_history_that_does_not_explain(self):
        for first, extras, wanted in [((7, 2), {"leak": 0}, True), ((6, 3), {"leak": 1}, True), ((6, 6), {"leak": 1}, False),
                                      ((5, 5), {"leak": 2}, False), ((7, 2), {"x": 5}, True)]:
            self.assertIs(check_end(example(), RED, True, End(5, {"eye": 1}, History(first, extras))), wanted)

    def test_planned_ones_in_the_combination(self):
        book = example().add(Planned(9, "plan", RED, 2))
        for weights, wanted in [({"eye": 1}, True), ({"plan": 1}, False), ({"eye": 1, "plan": 0}, False)]:
            self.assertIs(check_end(book, RED, True, End(5, weights, History((7, 2), {}))), wanted)

    def test_a_dear_combination(self):
        book = example().add(Reading(5, "again", RED, 3, 9))
        for number, weights, wanted in [(5, {"eye": 1}, True), (12, {"again": 1}, False), (5, {"again": 1}, False)]:
            self.assertIs(check_end(book, RED, True, End(number, weights, History((7, 2), {}))), wanted)

    def test_no_side(self):
        for other in [*anything(), Ratio(1)]:
            if other is not True and other is not False:
                for at in (None, "x"):
                    with self.subTest(repr(other)):
                        with self.assertRaises(NoSide):
                            check_end(example(), RED, other, None, at=at)

    def test_an_endless_question(self):
        book = example().without("eye")
        self.assertIs(check_end(book, RED, True, End(5, {"all": 1}, History((7, 2), {}))), False)
        self.assertIs(check_end(book, RED, True, End(5, {}, History((7, 2), {}))), False)

    def test_a_clash(self):
        for first in [(6, 0), (8, 0), (5, 0), (9, 0)]:
            for number, weights in [(6, {"x": 1}), (10, {"y": 1}), (8, {"y": 1}), (4, {"x": 1})]:
                for is_high in (True, False):
                    self.assertIs(check_end(clashing(), RED, is_high, End(number, weights, History(first, {}))), False)


class MiddleTest(StretchCase):
    def test_the_middle(self):
        for book, question, at in TOLD:
            found = stretch(book, question, at=at)
            if found is None:
                with self.assertRaises(Endless):
                    estimate(book, question, at=at)
            else:
                middle = estimate(book, question, at=at)
                self.assertIs(type(middle), Ratio)
                self.assertEqual(middle + middle, found[0] + found[1])
        self.assertEqual(estimate(example(), RED, at=1).text(), "5")
        self.assertEqual(estimate(example(), RED * HALF).text(), "3/2")

    def test_endless_comes_at_last(self):
        book = example().without("eye")
        with self.assertRaises(Endless):
            estimate(book, RED)
        with self.assertRaises(NoTime):
            estimate(book, RED, at="x")
        with self.assertRaises(Clash):
            estimate(clashing(), BLUE)


class HistoryWithTest(StretchCase):
    def assertHistory(self, book, question, number, at):
        found = history_with(book, question, number, at=at)
        self.assertIs(type(found), History)
        self.assertTrue(reckoning.does_explain(book, found))
        self.assertEqual(reckoning.answer(question, reckoning.amounts(book, found, at)), reckoning.fraction(number))

    def test_at_within_and_beyond_the_ends(self):
        for number, (book, question, at) in enumerate(TOLD):
            found = stretch(book, question, at=at)
            with self.subTest(number):
                if found is None:
                    for wanted in (0, -10 ** 30, Ratio(22, 7), TINY):
                        self.assertHistory(book, question, wanted, at)
                    continue
                low, high = found
                for share in (0, 1, HALF, Ratio(1, 7), TINY, Ratio(1) - TINY):
                    self.assertHistory(book, question, low + (high - low) * share, at)
                for wanted in (low - TINY, high + TINY, low - 10 ** 9, high + 10 ** 9):
                    self.assertIsNone(history_with(book, question, wanted, at=at))

    def test_integers_are_numbers(self):
        self.assertHistory(example(), RED, 5, None)
        self.assertHistory(example(), RED, 1, 99)
        self.assertIsNone(history_with(example(), RED, 6))

    def test_no_number(self):
        for book in (example(), clashing()):
            for other in not_numbers():
                for at in (None, "x"):
                    with self.subTest(repr(other)):
                        with self.assertRaises(NoNumber):
                            history_with(book, RED, other, at=at)

    def test_some_history(self):
        for book, _, _ in TOLD:
            found = some_history(book)
            self.assertIs(type(found), History)
            self.assertTrue(reckoning.does_explain(book, found))
        for book in (Book(GRID), Book(GRID, [Rough(1, "a", GRID, 0, 9, 1), Planned(2, "b", RED, 0)])):
            self.assertTrue(explains(book, some_history(book)))

    def test_what_is_done_to_the_answer(self):
        wanted = some_history(example())
        some_history(example()).extras.clear()
        self.assertEqual(some_history(example()), wanted)
        for end in ends_of(example(), RED):
            end.weights.clear()
        self.assertTrue(check_end(example(), RED, True, ends_of(example(), RED)[1]))


class DriftTest(StretchCase):
    def test_endless_questions_have_one(self):
        for number, (book, question, at) in enumerate(TOLD):
            with self.subTest(number):
                found = drift_of(book, question)
                if stretch(book, question, at=at) is not None:
                    self.assertIsNone(found)
                    continue
                self.assertIs(type(found), tuple)
                self.assertEqual({type(amount) for amount in found}, {Ratio})
                amounts = reckoning.fractions(found)
                self.assertEqual(reckoning.answer(question, amounts), 1)
                for reading in reckoning.entries_of(book, Reading):
                    self.assertEqual(reckoning.answer(reading.question, amounts), 0)
                self.assertIs(check_drift(book, question, found), True)

    def test_planned_ones_do_not_count(self):
        book = Book(GRID, [Planned(1, "x", RED, 0), Reading(2, "y", BLUE, 1, 1)])
        self.assertEqual(drift_of(book, RED), (1, 0))
        self.assertEqual(drift_of(book, RED * -4 + BLUE), (Ratio(-1, 4), 0))
        self.assertIsNone(drift_of(book, BLUE))
        self.assertIsNone(drift_of(book, nothing_of(GRID)))

    def test_checking(self):
        book = example().without("eye")
        for candidate, wanted in [
            ((1, -1), True), ((Ratio(1), Ratio(-1)), True), ([1, -1], False), ((1, -1, 0), False), ((1,), False), ((), False),
            ((2, -2), False), ((-1, 1), False), ((1, TINY - 1), False), ((TINY + 1, -1), False), ((0, 0), False),
            ((True, -1), False), ((1, None), False), (("1", "-1"), False), (((1, -1),), False),
        ]:
            self.assertIs(check_drift(book, RED, candidate), wanted)
        self.assertIs(check_drift(example(), RED, (1, -1)), False)
        self.assertIs(check_drift(Book(GRID), RED, (1, 99)), True)
        for other in anything():
            with self.subTest(repr(other)):
                self.assertIs(check_drift(book, RED, other), False)

    def test_checking_looks_at_no_values(self):
        self.assertIs(check_drift(clashing(), BLUE, (0, 1)), True)
        self.assertIs(check_drift(clashing(), BLUE, (1, 1)), False)


class FieldTest(StretchCase):
    def test_creating_checks_nothing(self):
        for number in anything():
            for other in (None, [], 5, "x", ()):
                end = End(number, other, number)
                self.assertIs(end.number, number)
                self.assertIs(end.weights, other)
                self.assertIs(end.history, number)

    def test_a_dict_is_copied(self):
        weights = {"x": 1}
        end = End(1, weights, None)
        weights["y"] = 2
        self.assertEqual(end.weights, {"x": 1})
        self.assertIs(type(end.weights["x"]), int)

    def test_equality(self):
        history = History((1, 2), {"a": 1})
        end = End(1, {"x": 1}, history)
        self.assertTrue(end == End(Ratio(1), {"x": Ratio(1)}, History([1, 2], {"a": Ratio(1)})))
        for other in [End(2, {"x": 1}, history), End(1, {"x": 2}, history), End(1, {"x": 1}, None), End(1, None, history)]:
            self.assertFalse(end == other)
            self.assertTrue(end != other)
        for other in anything():
            self.assertFalse(End(8, {"x": 1}, history) == other)
            self.assertTrue(End(8, {"x": 1}, history) != other)


if __name__ == "__main__":
    unittest.main()
