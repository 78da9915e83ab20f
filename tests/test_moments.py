import unittest

from tests import reckoning
from tests.makers import small_cases
from tests.others import anything, not_integers, words_that_are_no_names
from toldwithin.books import Book
from toldwithin.entries import Exact, Planned, Reading, Rough
from toldwithin.errors import Clash, NoName, NoTime, OtherGrid
from toldwithin.grids import Grid
from toldwithin.moments import course_of, known_change, known_then, news_of, roughness
from toldwithin.questions import Question, nothing_of
from toldwithin.ratios import Ratio
from toldwithin.stretches import stretch

GRID = Grid([("kind", ["red", "blue"])])
RED, BLUE = Question(GRID, (1, 0)), Question(GRID, (0, 1))
FAR = Question(Grid([("kind", ["red", "green"])]), (1, 0))
HALF = Ratio(1, 2)
CASES = small_cases(250, 4)
TOLD = [(book, question, at) for book, question, at in CASES if not reckoning.has_clash(book)]
CLASHING = [(book, question, at) for book, question, at in CASES if reckoning.has_clash(book)]


def example():
    return Book(GRID, [
        Reading(-5, "x", RED, 5, 2), Rough(2, "leak", GRID, 0, -1, 1), Exact(3, "buy", GRID, (10, HALF)),
        Planned(4, "p", BLUE, 1), Reading(10 ** 30, "y", RED, 12, 0),
    ]).add(Rough(6, "more", GRID, 1, 3, HALF))


def late_clash():
    """The first two entries hold together, the third one goes with neither."""
    return Book(GRID, [Reading(1, "x", RED, 5, 1), Reading(2, "y", RED, 6, 1), Reading(3, "z", RED, 9, 0)])


def early_clash():
    return Book(GRID, [Reading(1, "x", RED, 5, 1), Reading(2, "y", RED, 9, 1), Reading(3, "z", BLUE, 9, 0)])


def texts(pair):
    return pair if pair is None else tuple(end.text() for end in pair)


class ThenTest(unittest.TestCase):
    def test_each_moment(self):
        for time, red in [(-6, None), (-5, ("3", "7")), (0, ("3", "7")), (2, ("1", "7")), (3, ("11", "17")),
                          (10 ** 30 - 1, ("11", "17")), (10 ** 30, ("12", "12")), (10 ** 31, ("12", "12"))]:
            self.assertEqual(texts(known_then(example(), RED, time)), red)
            self.assertIsNone(known_then(example(), BLUE, time))

    def test_it_is_the_stretch_of_the_shorter_book(self):
        for book, question, _ in CASES:
            for time in range(-4, 9):
                if reckoning.has_clash(book.upto(time)):
                    with self.assertRaises(Clash):
                        known_then(book, question, time)
                else:
                    found = known_then(book, question, time)
                    self.assertEqual(found, stretch(book.upto(time), question, at=time))
                    if found is not None:
                        self.assertIs(type(found), tuple)

    def test_clashes_to_come_do_not_count(self):
        self.assertEqual(texts(known_then(late_clash(), RED, 2)), ("5", "6"))
        self.assertEqual(texts(known_then(early_clash(), RED, 1)), ("4", "6"))
        for book, time in [(late_clash(), 3), (late_clash(), 9), (early_clash(), 2), (early_clash(), 3)]:
            for question in (RED, BLUE, nothing_of(GRID)):
                with self.assertRaises(Clash):
                    known_then(book, question, time)

    def test_errors_in_their_order(self):
        for book in (example(), early_clash()):
            for other in [*not_integers(), "x", 9]:
                with self.assertRaises(OtherGrid):
                    known_then(book, FAR, other)
            for other in [*not_integers(), "x"]:
                with self.subTest(repr(other)):
                    with self.assertRaises(NoTime):
                        known_then(book, RED, other)


class CourseTest(unittest.TestCase):
    def test_by_hand(self):
        found = [(time, texts(then), texts(now)) for time, then, now in course_of(example(), RED)]
        self.assertEqual(found, [
            (-5, ("3", "7"), ("3", "4")), (2, ("1", "7"), ("2", "2")), (3, ("11", "17"), ("12", "12")),
            (4, ("11", "17"), ("12", "12")), (6, ("11", "17"), ("12", "12")), (10 ** 30, ("12", "12"), ("12", "12")),
        ])
        found = [(time, then, now) for time, then, now in course_of(example(), BLUE)]
        self.assertEqual(found, [(time, None, None) for time in (-5, 2, 3, 4, 6, 10 ** 30)])

    def test_then_and_now_at_every_entry(self):
        narrower = 0
        for number, (book, question, _) in enumerate(TOLD):
            with self.subTest(number):
                course = course_of(book, question)
                self.assertIs(type(course), list)
                self.assertEqual([step[0] for step in course], [entry.time for entry in book])
                for step in course:
                    self.assertIs(type(step), tuple)
                    time, then, now = step
                    self.assertEqual(then, known_then(book, question, time))
                    self.assertEqual(now, stretch(book, question, at=time))
                    if then is not None:
                        self.assertTrue(then[0] <= now[0] and now[1] <= then[1])
                        narrower += then != now
        self.assertGreater(narrower, 15)

    def test_no_entries(self):
        self.assertEqual(course_of(Book(GRID), RED), [])

    def test_clashes(self):
        alone = Book(GRID, [Reading(1, "x", nothing_of(GRID), 5, 1)])
        for book in (late_clash(), early_clash(), alone):
            for question in (RED, BLUE, nothing_of(GRID)):
                with self.assertRaises(Clash):
                    course_of(book, question)
            with self.assertRaises(OtherGrid):
                course_of(book, FAR)
        for book, question, _ in CLASHING:
            with self.assertRaises(Clash):
                course_of(book, question)
        with self.assertRaises(OtherGrid):
            course_of(example(), FAR)

    def test_what_is_done_to_the_answer(self):
        book = example()
        course_of(book, RED).clear()
        self.assertEqual(len(course_of(book, RED)), 6)


class NewsTest(unittest.TestCase):
    def test_by_hand(self):
        self.assertEqual([texts(pair) for pair in news_of(example(), "x")], [None, ("3", "7")])
        self.assertEqual([texts(pair) for pair in news_of(example(), "y")], [("11", "17"), ("12", "12")])
        self.assertIs(type(news_of(example(), "y")), tuple)

    def test_behind_is_the_part_of_before_that_the_reading_lets(self):
        for book, _, _ in TOLD:
            for reading in reckoning.entries_of(book, Reading):
                before, behind = news_of(book, reading.name)
                earlier = Book(book.grid, [entry for entry in book if entry.time < reading.time])
                self.assertEqual(before, stretch(earlier, reading.question))
                low, high = reading.value - reading.slip, reading.value + reading.slip
                if before is not None:
                    low = before[0] if before[0] > low else low
                    high = before[1] if before[1] < high else high
                self.assertEqual(behind, (low, high))

    def test_what_is_no_reading(self):
        for other in [*anything(), *words_that_are_no_names(), "leak", "buy", "p", "more", "z", "xx", "X"]:
            if other == "x":
                continue
            for book in (example(), Book(GRID)):
                with self.subTest(repr(other)):
                    with self.assertRaises(NoName) as caught:
                        news_of(book, other)
                    self.assertIs(caught.exception.name, other)

    def test_clashes(self):
        self.assertEqual([texts(pair) for pair in news_of(late_clash(), "y")], [("4", "6"), ("5", "6")])
        self.assertEqual([texts(pair) for pair in news_of(early_clash(), "x")], [None, ("4", "6")])
        for book, name in [(late_clash(), "z"), (early_clash(), "y"), (early_clash(), "z")]:
            with self.assertRaises(Clash):
                news_of(book, name)
        with self.assertRaises(NoName):
            news_of(early_clash(), "q")


class ChangeTest(unittest.TestCase):
    def assertChange(self, one, other, *wanted):
        found = known_change(example(), one, other)
        self.assertIs(type(found), tuple)
        self.assertEqual([number.text() for number in found], list(wanted))
        self.assertEqual({type(number) for number in found}, {Ratio})

    def test_in_both_orders(self):
        for one, other, wanted in [
            (-99, 99, ("9", "7/2")), (1, 2, ("-1", "0")), (2, 3, ("10", "1/2")), (3, 5, ("0", "0")), (5, 6, ("0", "3")),
            (2, 6, ("10", "7/2")), (6, 10 ** 40, ("0", "0")), (-10 ** 40, 2, ("-1", "0")),
        ]:
            self.assertChange(one, other, *wanted)
            back = [Ratio.read(text) for text in wanted]
            self.assertEqual(list(known_change(example(), other, one)), [-number for number in back])

    def test_equal_times(self):
        for time in (-99, 2, 3, 6, 10 ** 40):
            self.assertChange(time, time, "0", "0")
            self.assertEqual(roughness(example(), RED + BLUE, time, time), 0)

    def test_roughness(self):
        for one, other, red, blue in [
            (-99, 99, "1", "1/2"), (1, 2, "1", "0"), (2, 3, "0", "0"), (2, 6, "0", "1/2"), (5, 6, "0", "1/2"),
            (6, 7, "0", "0"), (0, 6, "1", "1/2"), (-10 ** 40, 1, "0", "0"),
        ]:
            for first, second in [(one, other), (other, one)]:
                found = roughness(example(), RED, first, second)
                self.assertIs(type(found), Ratio)
                self.assertEqual(found.text(), red)
                self.assertEqual(roughness(example(), BLUE, first, second).text(), blue)
                both = roughness(example(), RED * -4 + BLUE * HALF, first, second)
                self.assertEqual(both, Ratio.read(red) * 4 + Ratio.read(blue) * HALF)

    def test_against_the_reckoning(self):
        for book, question, _ in CASES:
            for one in range(-3, 8):
                for other in range(-3, 8, 2):
                    pairs = zip(reckoning.known_change(book, one), reckoning.known_change(book, other))
                    wanted = [later - sooner for sooner, later in pairs]
                    self.assertEqual(reckoning.fractions(known_change(book, one, other)), wanted)

    def test_errors_in_their_order(self):
        for other in [*not_integers(), "x"]:
            with self.subTest(repr(other)):
                for one, two in [(other, 1), (1, other), (other, other)]:
                    with self.assertRaises(NoTime):
                        known_change(example(), one, two)
                    with self.assertRaises(NoTime):
                        roughness(example(), RED, one, two)
                    with self.assertRaises(OtherGrid):
                        roughness(example(), FAR, one, two)

    def test_clashes_do_not_matter(self):
        self.assertEqual(known_change(early_clash(), 0, 9), (0, 0))
        self.assertEqual(roughness(early_clash(), RED, 0, 9), 0)

    def test_the_fact_about_later_moments(self):
        checked = 0
        for book, question, _ in TOLD:
            readings = [entry.time for entry in book if isinstance(entry, Reading)]
            first = max(readings, default=-3)
            for one, other in [(first, first), (first, first + 1), (first, first + 3), (first + 1, first + 9)]:
                before, behind = stretch(book, question, at=one), stretch(book, question, at=other)
                if before is None:
                    self.assertIsNone(behind)
                    continue
                checked += 1
                change = question.at(known_change(book, one, other))
                blur = roughness(book, question, one, other)
                self.assertEqual(behind, (before[0] + change - blur, before[1] + change + blur))
        self.assertGreater(checked, 100)


if __name__ == "__main__":
    unittest.main()
