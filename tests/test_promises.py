import unittest

from tests import reckoning
from tests.makers import small_cases
from tests.others import anything, not_integers, not_numbers
from toldwithin.books import Book
from toldwithin.entries import Exact, Planned, Reading, Rough
from toldwithin.errors import NoTime, NoWeights, OtherGrid
from toldwithin.grids import Grid
from toldwithin.histories import History
from toldwithin.promises import (
    Doubt, Promise, check_doubt, check_promise, doubt_of, least_error, price_of, promise_of,
)
from toldwithin.questions import Question, nothing_of
from toldwithin.ratios import Ratio

GRID = Grid([("kind", ["red", "blue"])])
RED, BLUE = Question(GRID, (1, 0)), Question(GRID, (0, 1))
FAR = Question(Grid([("kind", ["red", "green"])]), (1, 0))
HALF = Ratio(1, 2)
TINY = Ratio(1, 10 ** 100)
CASES = small_cases(250, 1)


def example():
    return Book(GRID, [Planned(1, "all", RED + BLUE, 1), Rough(2, "leak", GRID, 0, 0, 3), Planned(4, "eye", RED, 2)])


def not_moments():
    return [other for other in [*not_integers(), "x"] if other is not None]


class PromiseCase(unittest.TestCase):
    def assertRatio(self, found, wanted):
        self.assertIs(type(found), Ratio)
        self.assertEqual(reckoning.fraction(found), wanted)


class LeastErrorTest(PromiseCase):
    def test_against_the_reckoning(self):
        unbounded = 0
        for number, (book, question, at) in enumerate(CASES):
            with self.subTest(number):
                found = least_error(book, question, at=at)
                wanted = reckoning.least_error(book, question, at)
                if wanted is None:
                    self.assertIsNone(found)
                    unbounded += 1
                else:
                    self.assertRatio(found, wanted)
        # Both kinds come up often, or this would show little.
        self.assertTrue(50 < unbounded < 200)

    def test_each_moment_of_the_example(self):
        for at, red, blue in [(-9, 5, 6), (1, 5, 6), (2, 2, 6), (3, 2, 6), (4, 2, 6), (99, 2, 6), (None, 2, 6)]:
            self.assertRatio(least_error(example(), RED, at=at), red)
            self.assertRatio(least_error(example(), BLUE, at=at), blue)

    def test_each_moment_with_two_rough_deeds(self):
        entries = [
            Rough(1, "a", GRID, 0, 9, 1), Reading(3, "x", RED, 5, 2), Rough(5, "b", GRID, 0, 9, HALF),
            Exact(6, "e", GRID, (1, 1)), Rough(7, "c", GRID, 1, 9, 10),
        ]
        for at, wanted in [(0, 3), (1, 2), (2, 2), (3, 2), (4, 2), (5, 2.5), (6, 2.5), (7, 2.5), (None, 2.5)]:
            self.assertRatio(least_error(Book(GRID, entries), RED, at=at), wanted)

    def test_the_question_for_nothing(self):
        for book, question, at in CASES[:40]:
            self.assertRatio(least_error(book, question * 0, at=at), 0)
        self.assertRatio(least_error(Book(GRID), nothing_of(GRID)), 0)

    def test_a_book_without_looks(self):
        book = Book(GRID, [Rough(1, "a", GRID, 0, 9, 1), Exact(2, "b", GRID, (1, 2))])
        for question in (RED, BLUE, RED - BLUE):
            for at in (None, 0, 1, 9):
                self.assertIsNone(least_error(book, question, at=at))

    def test_only_what_the_looks_make_together(self):
        book = Book(GRID, [Planned(1, "x", RED + BLUE, 1), Planned(2, "y", RED + BLUE, HALF)])
        self.assertRatio(least_error(book, RED + BLUE), HALF.top / HALF.bottom)
        self.assertRatio(least_error(book, (RED + BLUE) * -6), 3)
        self.assertIsNone(least_error(book, RED))
        self.assertIsNone(least_error(book, RED + BLUE * (TINY + 1)))

    def test_looks_behind_the_moment_count(self):
        book = Book(GRID, [Planned(100, "x", RED, 1), Rough(50, "leak", GRID, 0, 0, 3)])
        self.assertRatio(least_error(book, RED, at=49), 4)
        self.assertRatio(least_error(book, RED, at=50), 1)

    def test_planned_ones_and_readings_are_alike(self):
        for book, question, at in CASES[:120]:
            planned = [
                Planned(entry.time, entry.name, entry.question, entry.slip) if isinstance(entry, Reading) else entry
                for entry in book
            ]
            self.assertEqual(least_error(Book(book.grid, planned), question, at=at), least_error(book, question, at=at))

    def test_values_amounts_and_exact_deeds_are_without_effect(self):
        for book, question, at in CASES[:120]:
            changed = []
            for entry in book:
                if isinstance(entry, Reading):
                    changed.append(Reading(entry.time, entry.name, entry.question, entry.value + 10 ** 9, entry.slip))
                elif isinstance(entry, Rough):
                    changed.append(Rough(entry.time, entry.name, entry.grid, entry.place, -5, entry.bound))
                elif not isinstance(entry, Exact):
                    changed.append(entry)
            changed.append(Exact(10 ** 9, "more", book.grid, [7] * book.grid.size))
            self.assertEqual(least_error(Book(book.grid, changed), question, at=at), least_error(book, question, at=at))

    def test_slips_and_bounds_of_zero(self):
        book = Book(GRID, [Planned(1, "x", RED, 0), Rough(2, "leak", GRID, 0, 9, 0), Planned(3, "y", BLUE, 0)])
        for question in (RED, BLUE, RED - BLUE * 5):
            for at in (None, 0, 2, 9):
                self.assertRatio(least_error(book, question, at=at), 0)

    def test_great_numbers(self):
        great = Ratio(10 ** 999 + 7, 3 ** 2000)
        book = Book(GRID, [Planned(1, "x", RED * great, great), Rough(2, "leak", GRID, 0, 0, great)])
        self.assertEqual(least_error(book, RED, at=1), 1)
        self.assertEqual(least_error(book, RED), great + 1)
        self.assertEqual(least_error(book, RED.over(great)), Ratio(1) + Ratio(1).over(great))


class ErrorTest(PromiseCase):
    def calls(self):
        return [
            least_error, promise_of, doubt_of,
            lambda book, question, *, at=None: price_of(book, question, None, at=at),
            lambda book, question, *, at=None: price_of(book, question, {"all": 1}, at=at),
            lambda book, question, *, at=None: check_promise(book, question, None, at=at),
            lambda book, question, *, at=None: check_doubt(book, question, None, at=at),
        ]

    def test_other_grids_go_ahead(self):
        for call in self.calls():
            for at in (None, 1, True, "x"):
                with self.assertRaises(OtherGrid):
                    call(example(), FAR, at=at)

    def test_no_time_goes_ahead_of_no_weights(self):
        for call in self.calls():
            for other in not_moments():
                with self.subTest(repr(other)):
                    with self.assertRaises(NoTime):
                        call(example(), RED, at=other)

    def test_the_moment_is_a_keyword(self):
        for call in self.calls()[:3]:
            with self.assertRaises(TypeError):
                call(example(), RED, 1)


class PriceTest(PromiseCase):
    def assertNoWeights(self, book, question, weights):
        for at in (None, 1):
            with self.assertRaises(NoWeights):
                price_of(book, question, weights, at=at)

    def test_by_the_two_sums(self):
        checked = 0
        for number, (book, question, at) in enumerate(CASES):
            promise = promise_of(book, question, at=at)
            if promise is None:
                continue
            with self.subTest(number):
                checked += 1
                weights = promise.weights
                self.assertRatio(price_of(book, question, weights, at=at), reckoning.price(book, question, weights, at))
                # At other moments the same combination has other prices.
                for other in (None, -9, 0, 2, 4):
                    wanted = reckoning.price(book, question, weights, other)
                    self.assertRatio(price_of(book, question, weights, at=other), wanted)
        self.assertGreater(checked, 50)

    def test_combinations_that_are_not_the_best(self):
        entries = [
            Planned(1, "x", RED, 1), Rough(2, "leak", GRID, 0, 0, 5), Reading(3, "y", RED, 9, 2),
            Reading(4, "z", BLUE, 9, 3),
        ]
        book = Book(GRID, entries)
        for weights, at, wanted in [
            ({"x": 1}, None, 6), ({"x": 1}, 1, 1), ({"y": 1}, None, 2), ({"y": 1}, 1, 7), ({"x": HALF, "y": HALF}, 2, 4),
            ({"x": 2, "y": -1}, None, 14), ({"x": 2, "y": -1, "z": 0}, 1, 9), ({"x": Ratio(1)}, 0, 1),
        ]:
            self.assertRatio(price_of(book, RED, weights, at=at), wanted)
            self.assertEqual(reckoning.price(book, RED, weights, at), wanted)

    def test_nothing_makes_nothing(self):
        self.assertRatio(price_of(example(), nothing_of(GRID), {}), 0)
        self.assertRatio(price_of(example(), nothing_of(GRID), {"all": 0, "eye": Ratio(0)}), 0)
        self.assertRatio(price_of(Book(GRID), nothing_of(GRID), {}), 0)
        self.assertNoWeights(example(), nothing_of(GRID), {"all": TINY})
        self.assertNoWeights(example(), RED, {})

    def test_what_does_not_make_the_question(self):
        for weights in [{"eye": 2}, {"all": 1}, {"eye": 1, "all": TINY}, {"eye": Ratio(1) + TINY}, {"eye": -1}]:
            self.assertNoWeights(example(), RED, weights)

    def test_names_that_are_no_looks(self):
        book = example().add(Exact(9, "buy", GRID, (1, 1)))
        for name in ("leak", "buy", "x", "", "EYE", "eye "):
            for weight in (0, 1):
                self.assertNoWeights(book, RED, {"eye": 1, name: weight})
                self.assertNoWeights(book, RED, {name: weight, "eye": 1})
        for key in (1, None, True, b"eye", ("eye",), (), Ratio, errors_of_keys):
            self.assertNoWeights(book, RED, {"eye": 1, key: 0})

    def test_weights_that_are_no_numbers(self):
        for other in not_numbers():
            with self.subTest(repr(other)):
                self.assertNoWeights(example(), RED, {"eye": other})
                self.assertNoWeights(example(), RED, {"eye": 1, "all": other})

    def test_no_dict(self):
        for other in anything():
            if not isinstance(other, dict):
                with self.subTest(repr(other)):
                    self.assertNoWeights(example(), RED, other)
                    self.assertNoWeights(Book(GRID), nothing_of(GRID), other)
        self.assertNoWeights(example(), RED, [("eye", 1)])

    def test_nothing_is_changed(self):
        weights = {"eye": 1}
        price_of(example(), RED, weights)
        self.assertEqual(weights, {"eye": 1})
        self.assertIs(type(weights["eye"]), int)


def errors_of_keys():
    """A function, which may be the key of a dict."""


class CertificateTest(PromiseCase):
    def test_both_of_equal_errors(self):
        for number, (book, question, at) in enumerate(CASES):
            with self.subTest(number):
                promise, doubt = promise_of(book, question, at=at), doubt_of(book, question, at=at)
                least = least_error(book, question, at=at)
                self.assertIsInstance(doubt, Doubt)
                self.assertIs(type(doubt.history), History)
                self.assertTrue(reckoning.is_doubt(book, question, doubt, at))
                self.assertIs(check_doubt(book, question, doubt, at=at), True)
                if least is None:
                    self.assertIsNone(promise)
                    self.assertIsNone(doubt.error)
                    continue
                self.assertIsInstance(promise, Promise)
                self.assertEqual((promise.error, doubt.error), (least, least))
                self.assertEqual({type(promise.error), type(doubt.error)}, {Ratio})
                self.assertIs(check_promise(book, question, promise, at=at), True)
                self.assertTrue(reckoning.does_make(book, question, promise.weights))
                price = reckoning.price(book, question, promise.weights, at)
                self.assertEqual(price, reckoning.fraction(least))
                self.assertEqual({type(weight) for weight in promise.weights.values()} | {Ratio}, {Ratio})

    def test_the_same_choice_every_time(self):
        for book, question, at in CASES[:60]:
            again = Book(Grid(list(book.grid.axes)), list(reversed(book.entries)))
            asked = Question(again.grid, list(question.weights))
            self.assertEqual(promise_of(book, question, at=at), promise_of(again, asked, at=at))
            self.assertEqual(doubt_of(book, question, at=at), doubt_of(again, asked, at=at))

    def test_what_is_done_to_the_answer(self):
        book = example()
        wanted = promise_of(book, BLUE)
        promise_of(book, BLUE).weights.clear()
        doubt_of(book, BLUE).history.extras.clear()
        self.assertEqual(promise_of(book, BLUE), wanted)
        self.assertTrue(check_promise(book, BLUE, wanted))
        self.assertTrue(check_doubt(book, BLUE, doubt_of(book, BLUE)))


class CheckingTest(PromiseCase):
    def test_anything_as_promise(self):
        for book in (example(), Book(GRID)):
            for question in (RED, nothing_of(GRID)):
                for other in anything():
                    with self.subTest(repr(other)):
                        self.assertIs(check_promise(book, question, other), False)

    def test_anything_in_a_promise(self):
        for other in anything():
            with self.subTest(repr(other)):
                self.assertIs(check_promise(example(), RED, Promise(2, other)), False)
                is_enough = isinstance(other, (int, Ratio)) and not isinstance(other, bool) and other >= 2
                self.assertIs(check_promise(example(), RED, Promise(other, {"eye": 1})), is_enough)

    def test_the_error_of_a_promise(self):
        for error, wanted in [(2, True), (Ratio(2), True), (TINY + 2, True), (3, True), (Ratio(2) - TINY, False),
                              (1, False), (-2, False), (None, False), (True, False), ("2", False)]:
            self.assertIs(check_promise(example(), RED, Promise(error, {"eye": 1})), wanted)
            self.assertIs(check_promise(example(), RED, Promise(error, {"eye": Ratio(1), "all": 0})), wanted)

    def test_the_weights_of_a_promise(self):
        for weights in [{}, {"all": 1}, {"eye": 2}, {"eye": True}, {"eye": "1"}, {"eye": None}, {"leak": 1}, None,
                        {"eye": 1, "x": 0}, {"eye": 1, "leak": 0}, [("eye", 1)], {1: 1}, {"eye": 1, None: 0}]:
            self.assertIs(check_promise(example(), RED, Promise(10 ** 9, weights)), False)

    def test_a_promise_at_a_moment(self):
        promise = Promise(2, {"eye": 1})
        for at, wanted in [(None, True), (2, True), (1, False), (-5, False), (9, True)]:
            self.assertIs(check_promise(example(), RED, promise, at=at), wanted)

    def test_anything_as_doubt(self):
        for book in (example(), Book(GRID)):
            for question in (RED, nothing_of(GRID)):
                for other in anything():
                    with self.subTest(repr(other)):
                        self.assertIs(check_doubt(book, question, other), False)

    def test_anything_in_a_doubt(self):
        doubt = doubt_of(example(), BLUE)
        for other in anything():
            with self.subTest(repr(other)):
                self.assertIs(check_doubt(example(), BLUE, Doubt(doubt.error, other)), False)
                self.assertIs(check_doubt(example(), BLUE, Doubt(other, doubt.history)), False)

    def test_the_error_of_a_doubt(self):
        history = History((2, 4), {"leak": 0})
        book = Book(GRID, [Planned(1, "eye", RED, 2), Planned(2, "far", BLUE, 9), Rough(3, "leak", GRID, 0, 7, 1)])
        for error, wanted in [(2, True), (Ratio(2), True), (TINY + 2, False), (Ratio(2) - TINY, False), (-2, False),
                              (None, False), (True, False), (0, False)]:
            self.assertIs(check_doubt(book, RED, Doubt(error, history)), wanted)
        # It need not be the least error, but it is told of its own error.
        self.assertIs(check_doubt(book, RED, Doubt(1, History((1, 0), {}))), True)
        self.assertIs(check_doubt(book, RED, Doubt(0, History((0, 9), {}))), True)
        self.assertIs(check_doubt(book, RED, Doubt(-1, History((-1, 0), {}))), False)
        self.assertIs(check_doubt(book, RED, Doubt(3, History((2, 0), {"leak": 1}))), True)
        self.assertIs(check_doubt(book, RED, Doubt(3, History((2, 0), {"leak": 1})), at=2), False)
        self.assertIs(check_doubt(book, RED, Doubt(2, History((2, 0), {"leak": 1})), at=2), True)

    def test_the_history_of_a_doubt(self):
        book = Book(GRID, [Planned(1, "eye", RED, 2), Rough(2, "leak", GRID, 0, 7, 1), Planned(3, "far", RED, 3)])
        for first, extras, wanted in [
            ((2, 0), {"leak": 1}, True), ((2, 5), {"leak": 1, "x": 99, "eye": 5}, True), ((2,), {"leak": 1}, False),
            ((2, 0, 0), {"leak": 1}, False), ((TINY + 2, 0), {"leak": Ratio(1) - TINY}, False),
            ((Ratio(2) - TINY, 0), {"leak": TINY + 1}, False), ((2, 0), {"leak": -1}, False), ((3, 0), {}, False),
        ]:
            self.assertIs(check_doubt(book, RED, Doubt(3, History(first, extras))), wanted)

    def test_a_look_beyond_its_slip(self):
        book = Book(GRID, [Planned(1, "all", RED + BLUE, 1), Planned(2, "eye", RED, 2)])
        for blue, wanted in [(-3, True), (-1, True), (Ratio(-3) - TINY, False), (TINY - 1, False), (0, False)]:
            self.assertIs(check_doubt(book, RED, Doubt(2, History((2, blue), {}))), wanted)
            self.assertIs(check_doubt(book, BLUE, Doubt(-blue, History((-2, -blue), {}))), wanted)

    def test_a_doubt_without_an_error(self):
        book = example().without("eye")
        for first, extras, wanted in [
            ((1, -1), {}, True), ((1, -1), {"leak": 0}, True), ((1, -1), {"leak": TINY}, False), ((1, -1), {"x": 1}, True),
            ((2, -2), {}, False), ((1, 0), {}, False), ((-1, 1), {}, False), ((1, TINY - 1), {}, False),
            ((1, -1, 0), {}, False), ((0, 0), {}, False),
        ]:
            for at in (None, 0, 2, 9):
                self.assertIs(check_doubt(book, RED, Doubt(None, History(first, extras)), at=at), wanted)
        # A history that the looks do not see shows any error there is.
        self.assertIs(check_doubt(book, RED, Doubt(1, History((1, -1), {}))), True)
        self.assertIs(check_doubt(example(), RED, Doubt(None, History((1, -1), {}))), False)

    def test_an_extra_behind_the_moment_still_has_its_bound(self):
        book = Book(GRID, [Planned(1, "eye", RED, 2), Rough(9, "leak", GRID, 1, 7, 1)])
        for extra, wanted in [(1, True), (-1, True), (TINY + 1, False), (-5, False)]:
            self.assertIs(check_doubt(book, RED, Doubt(2, History((2, 0), {"leak": extra})), at=1), wanted)


class FieldTest(PromiseCase):
    def test_creating_checks_nothing(self):
        for error in anything():
            for other in (None, [], 5, "x", ()):
                with self.subTest(repr(error)):
                    promise, doubt = Promise(error, other), Doubt(error, other)
                    self.assertIs(promise.error, error)
                    self.assertIs(promise.weights, other)
                    self.assertIs(doubt.error, error)
                    self.assertIs(doubt.history, other)

    def test_a_dict_is_copied(self):
        weights = {"x": 1, None: [], ("a",): "b"}
        promise = Promise(1, weights)
        weights["y"] = 2
        weights["x"] = 9
        self.assertEqual(promise.weights, {"x": 1, None: [], ("a",): "b"})
        self.assertIs(type(promise.weights), dict)
        self.assertIs(type(promise.weights["x"]), int)

    def test_equality(self):
        history = History((1, 2), {"a": 1})
        self.assertTrue(Promise(1, {"x": 1, "y": 2}) == Promise(Ratio(1), {"y": Ratio(2), "x": 1}))
        self.assertTrue(Doubt(1, history) == Doubt(Ratio(1), History([1, 2], {"a": Ratio(1)})))
        self.assertTrue(Doubt(None, None) == Doubt(None, None))
        self.assertFalse(Promise(1, {}) != Promise(1, {}))
        for other in [Promise(2, {"x": 1}), Promise(1, {"x": 2}), Promise(1, {}), Promise(1, None), Doubt(1, {"x": 1})]:
            self.assertFalse(Promise(1, {"x": 1}) == other)
            self.assertTrue(Promise(1, {"x": 1}) != other)
        for other in [Doubt(2, history), Doubt(1, History((1, 2), {})), Doubt(None, history), Promise(1, history)]:
            self.assertFalse(Doubt(1, history) == other)
            self.assertTrue(Doubt(1, history) != other)
        for other in anything():
            self.assertFalse(Promise(8, {"x": 1}) == other)
            self.assertFalse(Doubt(8, history) == other)
            self.assertTrue(Promise(8, {"x": 1}) != other)
            self.assertTrue(Doubt(8, history) != other)


if __name__ == "__main__":
    unittest.main()
