"""Values of all kinds, to be passed where something else is expected."""

import toldwithin.errors as errors
from toldwithin.books import Book
from toldwithin.branches import Conflict
from toldwithin.buying import Goal, Offer
from toldwithin.desk import Desk
from toldwithin.entries import Exact, Planned, Reading, Rough
from toldwithin.grids import Grid
from toldwithin.histories import History
from toldwithin.promises import Doubt, Promise
from toldwithin.questions import Listed, Question
from toldwithin.ratios import Ratio
from toldwithin.stores import Store
from toldwithin.stretches import End
from toldwithin.trees import Expression

BOOLS = [True, False]


def plain_things():
    """Values of built-in kinds that are no integer, no bool, no string, no list and no tuple."""
    return [
        None,
        b"",
        b"a",
        bytearray(b"ab"),
        memoryview(b"ab"),
        {},
        {"a": 1},
        {0: "a", 1: "b"},
        range(2),
        slice(1),
        Ellipsis,
        NotImplemented,
        object(),
        int,
        len,
        lambda: 1,
        iter([1, 2]),
        ValueError("a"),
    ]


def own_things():
    """Objects of classes of the interface that are no Ratio."""
    grid = Grid([("kind", ["red", "blue"])])
    question = Question(grid, (1, 0))
    return [
        grid,
        question,
        Listed("kind", [question, question]),
        Expression("name", ["a"]),
        errors.NoRatio("top"),
        errors.NoCell(),
        *entries_of(grid),
        Book(grid),
        Book(grid, entries_of(grid)),
        History((1, 2), {"a": 1}),
        Promise(1, {"a": 1}),
        Promise(None, None),
        Doubt(7, History((1, 2), {"a": 1})),
        Doubt([], "a"),
        End(1, {"a": 1}, History((1, 2), {"a": 1})),
        End({}, [], ()),
        Offer("a", question, 1, 1),
        Goal(question, 1),
        Store(Book(grid)),
        Conflict("time", 7),
        Desk(grid),
    ]


def entries_of(grid):
    """One entry of each kind, for a grid of two cells."""
    question = Question(grid, (1, 0))
    return [
        Reading(1, "a", question, 5, 1),
        Planned(2, "b", question, 1),
        Exact(3, "c", grid, (1, 2)),
        Rough(4, "d", grid, 0, 1, 1),
    ]


def anything():
    """Values of all kinds, to be passed where it is asked whether something is so."""
    nested = []
    for _ in range(24):
        nested = [nested]
    return [
        *plain_things(), *own_things(), *BOOLS, 0, 1, -1, 10 ** 999, "", "a", "x", [], [1], (), (1, 2), [("x", 1)], nested,
        Ratio(0), Ratio(1), Ratio(-1, 2), {"x": nested}, {nested_tuple(): 1}, {None: 1}, {b"x": 1}, {1: 1}, {"": 1},
    ]


def nested_tuple():
    nested = ()
    for _ in range(24):
        nested = (nested,)
    return nested


def not_sequences():
    return [*plain_things(), *own_things(), *BOOLS, 0, 1, "", "a", "ab", Ratio(1)]


def not_strings():
    return [*plain_things(), *own_things(), *BOOLS, 0, 1, [], ["a"], (), ("a",), [["a"]], Ratio(1)]


def not_numbers():
    return [*plain_things(), *own_things(), *BOOLS, "", "1", "1/2", [], [1], (), (1, 2)]


def not_integers():
    return [*not_numbers(), Ratio(1), Ratio(1, 2)]


def words_that_are_no_names():
    return ["", "sum", "each", "a2345678x", "abcdefghi", "A", "aB", "Red", "1", "1a", "0", "a b", " a", "a ", "a_",
            "_a", "a-b", "a.", "a\n", "-a", "a=b"]


def names():
    return ["a", "z", "a0", "z9", "abcdefgh", "a1234567", "sums", "su", "eac", "eachs", "summe", "m", "nine"]


def not_names():
    return [*words_that_are_no_names(), *not_strings()]
