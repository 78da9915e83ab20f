"""The interface: its names, where they are defined, and their arguments."""

import importlib
import inspect
import unittest

import toldwithin.errors as errors
from tests.others import own_things
from toldwithin.desk import Desk
from toldwithin.grids import Grid
from toldwithin.questions import Question
from toldwithin.ratios import Ratio

# For each file: its functions, and its classes with their methods; "" is the class itself, "=" that it has an equality.
INTERFACE = {
    "ratios": {"Ratio": {"": "top, bottom=1", "over": "number", "text": "", "read": "text", "=": None}},
    "grids": {"Grid": {"": "axes", "place_of": "members", "region": "wish", "=": None}},
    "questions": {
        "Question": {"": "grid, weights", "at": "amounts", "over": "number", "is_nothing": "", "=": None},
        "Listed": {"": "axis, questions", "at": "amounts", "over": "number", "=": None},
        "sum_of": "grid, wish", "nothing_of": "grid", "each_of": "grid, axis, wish",
    },
    "trees": {"Expression": {"": "kind, parts", "=": None}},
    "parsing": {"parse": "text", "show": "expression"},
    "meanings": {"meaning": "expression, grid, names=None", "reckoned": "expression, grid, amounts, names=None"},
    "entries": {
        "Reading": {"": "time, name, question, value, slip", "=": None}, "Planned": {"": "time, name, question, slip", "=": None},
        "Exact": {"": "time, name, grid, changes", "=": None},
        "Rough": {"": "time, name, grid, place, amount, bound", "=": None},
    },
    "books": {"Book": {
        "": "grid, entries=()", "add": "entry", "without": "name", "upto": "time", "names": "", "last": "", "=": None,
    }},
    "histories": {
        "History": {"": "first, extras", "at": "book, time=None", "bare": "book, time=None", "=": None},
        "explains": "book, history", "misfits": "book, history",
    },
    "promises": {
        "least_error": "book, question, *, at=None", "price_of": "book, question, weights, *, at=None",
        "promise_of": "book, question, *, at=None", "doubt_of": "book, question, *, at=None",
        "check_promise": "book, question, candidate, *, at=None", "check_doubt": "book, question, candidate, *, at=None",
        "Promise": {"": "error, weights", "=": None}, "Doubt": {"": "error, history", "=": None},
    },
    "stretches": {
        "stretch": "book, question, *, at=None", "center_of": "book, question, weights, *, at=None",
        "estimate": "book, question, *, at=None", "ends_of": "book, question, *, at=None",
        "check_end": "book, question, is_high, candidate, *, at=None", "history_with": "book, question, number, *, at=None",
        "drift_of": "book, question", "check_drift": "book, question, candidate", "some_history": "book",
        "End": {"": "number, weights, history", "=": None},
    },
    "clashes": {
        "clash_of": "book", "check_clash": "book, candidate", "excuses": "book, most", "surely_wrong": "book, most",
    },
    "moments": {
        "known_then": "book, question, time", "course_of": "book, question", "news_of": "book, name",
        "known_change": "book, one, other", "roughness": "book, question, one, other",
    },
    "worth": {"useless": "book, name", "gain": "book, name, question, *, at=None"},
    "buying": {
        "Offer": {"": "name, question, slip, cost", "=": None}, "Goal": {"": "question, error", "=": None},
        "bought": "book, offers, names", "cheapest": "book, offers, goals", "evidence": "book, offers, goals",
        "check_cheapest": "book, offers, goals, answer, found",
    },
    "stores": {"Store": {
        "": "book", "keep": "label, question, *, at=None", "answer": "label", "forget": "label", "labels": "", "add": "entry",
        "drop": "name", "would": "entry", "back": "", "many": "", "trial": "entries",
    }},
    "forgetting": {
        "needless": "book", "trimmed": "book", "folded": "book", "lost": "book, names", "enough": "book, questions",
    },
    "branches": {
        "Conflict": {"": "kind, what", "=": None}, "merged": "base, one, other", "tangle": "base, one, other", "cut": "book",
        "cut_paper": "book", "check_cut": "book, names, paper",
    },
    "texts": {
        "question_text": "question", "entry_text": "entry", "book_text": "book", "read_question": "grid, text",
        "read_entry": "grid, text", "read_book": "grid, text",
    },
    "desk": {"Desk": {"": "grid", "tell": "line", "tell_all": "lines", "journal": ""}},
}
PROPERTIES = {"Store": "stores", "Desk": "desk"}


def told_arguments(function, is_method):
    found = list(inspect.signature(function).parameters.values())
    told = str(inspect.Signature(found[1:] if is_method else found))
    return told[1:-1]


class InterfaceTest(unittest.TestCase):
    def each(self):
        for file_name, names in INTERFACE.items():
            module = importlib.import_module(f"toldwithin.{file_name}")
            for name, told in names.items():
                yield module, getattr(module, name), told

    def test_each_is_defined_in_its_file(self):
        for module, found, told in self.each():
            self.assertEqual(found.__module__, module.__name__)
            self.assertIs(inspect.isclass(found), isinstance(told, dict))

    def test_arguments(self):
        for _, found, told in self.each():
            with self.subTest(found.__name__):
                if isinstance(told, str):
                    self.assertEqual(told_arguments(found, False), told)
                    continue
                for name, arguments in told.items():
                    # In the class itself, not only in a base class.
                    own = vars(found)[{"": "__init__", "=": "__eq__"}.get(name, name)]
                    if arguments is not None:
                        is_static = isinstance(own, staticmethod)
                        function = own.__func__ if is_static else own
                        self.assertEqual(told_arguments(function, not is_static), arguments)

    def test_no_class_derives_from_another_one(self):
        for _, found, told in self.each():
            if isinstance(told, dict):
                self.assertEqual(found.__bases__, (object,))

    def test_properties(self):
        for name, file_name in PROPERTIES.items():
            found = getattr(importlib.import_module(f"toldwithin.{file_name}"), name)
            self.assertIsInstance(vars(found)["book"], property)


class ConventionsTest(unittest.TestCase):
    def test_objects_of_unlike_classes_are_unequal(self):
        things = [Ratio(1), *[thing for thing in own_things() if "__eq__" in vars(type(thing))]]
        self.assertEqual(len({type(thing) for thing in things}), 17)
        for one in things:
            self.assertTrue(one == one)
            for other in things:
                if type(one) is not type(other):
                    self.assertIs(one == other, False)
                    self.assertIs(one != other, True)

    def test_every_error_is_told(self):
        told = {name: found for name, found in vars(errors).items() if inspect.isclass(found)}
        self.assertEqual(len(told), 38)
        for name, found in told.items():
            self.assertIn("told", vars(found))
            arguments = inspect.signature(found.__init__).parameters if "__init__" in vars(found) else ["self"]
            error = found(*["a"] * (len(arguments) - 1))
            self.assertEqual(error.told(), f"refused {name.lower()}")

    def test_numbers_that_come_back(self):
        grid = Grid([("kind", ["red", "blue"])])
        desk = Desk(grid)
        desk.tell("read 1 x 5 1 sum()")
        self.assertEqual({type(number) for number in [desk.book["x"].value, *Question(grid, (1, 2)).weights]}, {Ratio})
        self.assertIs(type(desk.book["x"].time), int)


if __name__ == "__main__":
    unittest.main()
