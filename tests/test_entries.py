import unittest

from tests.others import (
    BOOLS, entries_of, names, not_integers, not_names, not_numbers, not_sequences, not_strings, plain_things,
)
from toldwithin.entries import Exact, Planned, Reading, Rough
from toldwithin.errors import NoEntry
from toldwithin.grids import Grid
from toldwithin.questions import Question
from toldwithin.ratios import Ratio

KINDS = [("kind", ["red", "blue", "grey"])]
GRID = Grid(KINDS)
QUESTION = Question(GRID, (1, 0, -1))
TINY = Ratio(1, 10 ** 60)
MANY = 10 ** 300 + 7

# For each class its parameters in their order, with a value that is as told.
GOOD = {
    Reading: {"time": 3, "name": "x", "question": QUESTION, "value": 5, "slip": 1},
    Planned: {"time": 3, "name": "x", "question": QUESTION, "slip": 1},
    Exact: {"time": 3, "name": "x", "grid": GRID, "changes": (1, 2, 3)},
    Rough: {"time": 3, "name": "x", "grid": GRID, "place": 1, "amount": -2, "bound": 1},
}


def without_kind(others, kind):
    return [other for other in others if not isinstance(other, kind)]


def wrong_reaches():
    return [*not_numbers(), -1, Ratio(-1, 2), -TINY, -MANY]


def wrong_values(word):
    if word == "time":
        return not_integers()
    if word == "name":
        return not_names()
    if word == "question":
        return [*without_kind(not_strings(), Question), "red", GRID, QUESTION.weights]
    if word == "grid":
        return [*without_kind(not_strings(), Grid), "kind", KINDS, GRID.axes, GRID.cells]
    if word in ("value", "amount"):
        return not_numbers()
    if word in ("slip", "bound"):
        return wrong_reaches()
    if word == "place":
        return [*not_integers(), -1, 3, 4, -MANY, MANY]
    wrong = [*not_sequences(), (), [1], [1, 2], (1, 2, 3, 4), "123", range(3), {0: 1, 1: 2, 2: 3}]
    wrong.extend([1, other, 3] for other in not_numbers())
    wrong.extend((1, 2, other) for other in not_numbers())
    return wrong


class MakingTest(unittest.TestCase):
    def assertWord(self, word, kind, told):
        with self.assertRaises(NoEntry) as caught:
            kind(*told.values())
        self.assertEqual(caught.exception.word, word)

    def test_each_parameter_wrong_alone(self):
        for kind, good in GOOD.items():
            for word in good:
                for wrong in wrong_values(word):
                    with self.subTest((kind.__name__, word, repr(wrong))):
                        self.assertWord(word, kind, {**good, word: wrong})

    def test_two_wrong_at_once(self):
        for kind, good in GOOD.items():
            words = list(good)
            for place, word in enumerate(words):
                for later in words[place + 1:]:
                    for wrong in (None, True, "A b", [], -1 if word != "time" else None):
                        if word in ("value", "amount") and wrong == -1:
                            continue
                        with self.subTest((kind.__name__, word, later, repr(wrong))):
                            self.assertWord(word, kind, {**good, word: wrong, later: None})

    def test_all_wrong(self):
        for kind, good in GOOD.items():
            self.assertWord("time", kind, {word: None for word in good})

    def test_flags_are_no_numbers(self):
        for flag in BOOLS:
            for kind, good in GOOD.items():
                for word in ("time", "value", "slip", "place", "amount", "bound"):
                    if word in good:
                        self.assertWord(word, kind, {**good, word: flag})
            self.assertWord("changes", Exact, {**GOOD[Exact], "changes": [1, flag, 2]})

    def test_a_ratio_is_neither_time_nor_place(self):
        for kind, good in GOOD.items():
            self.assertWord("time", kind, {**good, "time": Ratio(3)})
        self.assertWord("place", Rough, {**GOOD[Rough], "place": Ratio(1)})

    def test_by_keyword(self):
        for kind, good in GOOD.items():
            self.assertEqual(kind(**good), kind(*good.values()))

    def test_the_bounds_at_their_edges(self):
        for kind, word in [(Reading, "slip"), (Planned, "slip"), (Rough, "bound")]:
            for edge in (0, Ratio(0), TINY, MANY):
                entry = kind(*{**GOOD[kind], word: edge}.values())
                self.assertEqual(getattr(entry, word), edge)
                self.assertIs(type(getattr(entry, word)), Ratio)

    def test_places_at_their_edges(self):
        for place in (0, 1, 2):
            entry = Rough(1, "x", GRID, place, 0, 0)
            self.assertEqual(entry.place, place)
            self.assertIs(type(entry.place), int)

    def test_names(self):
        for kind, good in GOOD.items():
            for name in names():
                self.assertEqual(kind(*{**good, "name": name}.values()).name, name)

    def test_times(self):
        for kind, good in GOOD.items():
            for time in (0, -1, MANY, -MANY):
                self.assertEqual(kind(*{**good, "time": time}.values()).time, time)


class FieldTest(unittest.TestCase):
    def assertRatios(self, numbers, *wanted):
        self.assertEqual([number.text() for number in numbers], list(wanted))
        self.assertEqual({type(number) for number in numbers}, {Ratio})

    def test_a_reading(self):
        entry = Reading(3, "x", QUESTION, 5, Ratio(2, 4))
        self.assertEqual((entry.time, entry.name), (3, "x"))
        self.assertIs(entry.question, QUESTION)
        self.assertRatios([entry.value, entry.slip], "5", "1/2")
        self.assertEqual(entry.grid, GRID)

    def test_a_planned_one(self):
        entry = Planned(-3, "x1", QUESTION, 0)
        self.assertEqual((entry.time, entry.name), (-3, "x1"))
        self.assertIs(entry.question, QUESTION)
        self.assertRatios([entry.slip], "0")
        self.assertEqual(entry.grid, GRID)
        self.assertFalse(hasattr(entry, "value"))

    def test_an_exact_deed(self):
        entry = Exact(0, "abcdefgh", GRID, [1, Ratio(-2, 6), 0])
        self.assertEqual((entry.time, entry.name, entry.grid), (0, "abcdefgh", GRID))
        self.assertIs(type(entry.changes), tuple)
        self.assertRatios(entry.changes, "1", "-1/3", "0")

    def test_a_rough_deed(self):
        entry = Rough(7, "x", GRID, 2, Ratio(-4, 2), 3)
        self.assertEqual((entry.time, entry.name, entry.grid, entry.place), (7, "x", GRID, 2))
        self.assertRatios([entry.amount, entry.bound], "-2", "3")

    def test_what_was_passed_may_change(self):
        changes = [1, 2, 3]
        entry = Exact(0, "x", GRID, changes)
        self.assertEqual(changes, [1, 2, 3])
        self.assertIs(type(changes[0]), int)
        changes[0] = 9
        changes.append(4)
        self.assertRatios(entry.changes, "1", "2", "3")


class EqualityTest(unittest.TestCase):
    def assertUnequal(self, one, other):
        self.assertFalse(one == other)
        self.assertTrue(one != other)
        self.assertFalse(other == one)

    def test_equal(self):
        for kind, good in GOOD.items():
            one = kind(*good.values())
            self.assertTrue(one == kind(*good.values()))
            self.assertFalse(one != kind(*good.values()))
        question = Question(Grid(KINDS), [1, 0, Ratio(-2, 2)])
        self.assertTrue(Reading(3, "x", question, Ratio(5), Ratio(1)) == Reading(*GOOD[Reading].values()))
        self.assertTrue(Exact(3, "x", Grid(KINDS), [1, Ratio(2), 3]) == Exact(*GOOD[Exact].values()))
        self.assertTrue(Rough(3, "x", Grid(KINDS), 1, Ratio(-2), Ratio(1)) == Rough(*GOOD[Rough].values()))

    def test_each_field_unequal(self):
        other_grid = Grid([("kind", ["red", "blue", "green"])])
        others = {
            "time": 4, "name": "y", "question": Question(GRID, (1, 0, 1)), "value": 6, "slip": 2, "changes": (1, 2, 4),
            "place": 2, "amount": 2, "bound": Ratio(1, 2), "grid": other_grid,
        }
        for kind, good in GOOD.items():
            one = kind(*good.values())
            for word in good:
                self.assertUnequal(one, kind(*{**good, word: others[word]}.values()))
        self.assertUnequal(
            Planned(3, "x", QUESTION, 1), Planned(3, "x", Question(other_grid, QUESTION.weights), 1),
        )

    def test_other_kinds(self):
        made = [kind(*good.values()) for kind, good in GOOD.items()]
        for one in made:
            for other in [*not_strings(), *plain_things(), "x", "", GRID, QUESTION, *entries_of(Grid([("a", ["b", "c"])]))]:
                self.assertUnequal(one, other)
            for other in made:
                if one is not other:
                    self.assertUnequal(one, other)


if __name__ == "__main__":
    unittest.main()
