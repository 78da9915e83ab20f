"""Stores: [37], [38]."""

import unittest

from tests import reckoning
from tests.makers import Maker, small_cases
from tests.others import anything, not_integers, not_names, not_sequences, words_that_are_no_names
from toldwithin.books import Book
from toldwithin.entries import Exact, Planned, Reading, Rough
from toldwithin.errors import (
    Clash, NoBook, NoName, NoTime, NoUndo, OtherGrid, SameName, SameTime, ToldError, TooMany,
)
from toldwithin.grids import Grid
from toldwithin.questions import Question, nothing_of
from toldwithin.ratios import Ratio
from toldwithin.stores import Store
from toldwithin.stretches import stretch

GRID = Grid([("kind", ["red", "blue"])])
RED, BLUE = Question(GRID, (1, 0)), Question(GRID, (0, 1))
NOTHING = nothing_of(GRID)
FAR_GRID = Grid([("kind", ["red", "green"])])
FAR = Question(FAR_GRID, (1, 0))
HALF = Ratio(1, 2)


def not_times():
    return [thing for thing in not_integers() if thing is not None]


def started():
    """A store of a few entries with an endless label, one of a moment, and one of the last moment."""
    store = Store(Book(GRID, [Reading(1, "x", RED, 5, 2), Rough(3, "leak", GRID, 0, 0, 1)]))
    store.keep("now", RED)
    store.keep("then", RED, at=1)
    store.keep("blue", BLUE)
    return store


def state_of(store):
    return store.book, {label: store.answer(label) for label in store.labels()}, store.many()


def texts(pair):
    return pair if pair is None else tuple(end.text() for end in pair)


class StoreCase(unittest.TestCase):
    def assertRefused(self, store, error, call, **fields):
        """The call raises this error, and nothing changes."""
        before = state_of(store)
        with self.assertRaises(error) as caught:
            call()
        self.assertIs(type(caught.exception), error)
        for name, wanted in fields.items():
            self.assertEqual(getattr(caught.exception, name), wanted)
        self.assertEqual(state_of(store), before)


class KeepTest(StoreCase):
    def test_a_new_store(self):
        book = Book(GRID, [Reading(1, "x", RED, 5, 2)])
        store = Store(book)
        self.assertEqual((store.book, store.labels(), store.many()), (book, [], 0))

    def test_clash(self):
        for entries in ([Reading(1, "x", RED, 5, 1), Reading(2, "y", RED, 9, 1)], [Reading(1, "x", NOTHING, 5, 1)]):
            with self.assertRaises(Clash):
                Store(Book(GRID, entries))

    def test_stretches(self):
        store = Store(Book(GRID, [Reading(1, "x", RED, 5, 2), Exact(3, "buy", GRID, (4, 0))]))
        found = store.keep("now", RED)
        self.assertIs(type(found), tuple)
        self.assertEqual(texts(found), ("7", "11"))
        self.assertEqual(texts(store.keep("then", RED, at=2)), ("3", "7"))
        self.assertIsNone(store.keep("blue", BLUE))
        self.assertEqual(texts(store.keep("none", NOTHING)), ("0", "0"))
        self.assertEqual([texts(store.answer(label)) for label in ("now", "then", "blue", "none")],
                         [("7", "11"), ("3", "7"), None, ("0", "0")])
        self.assertEqual(store.labels(), ["blue", "none", "now", "then"])

    def test_in_the_place_of_a_label(self):
        store = started()
        self.assertEqual(texts(store.keep("now", RED * 2, at=1)), ("6", "14"))
        self.assertEqual((texts(store.answer("now")), store.many()), (("6", "14"), 4))
        self.assertEqual(store.labels(), ["blue", "now", "then"])
        store.back()
        self.assertEqual(texts(store.answer("now")), ("2", "8"))
        self.assertEqual(store.add(Exact(9, "buy", GRID, (1, 0)))["now"], "moved")

    def test_the_thirteenth_label(self):
        store = Store(Book(GRID))
        for at in range(12):
            store.keep("k" + str(at), RED)
        self.assertRefused(store, TooMany, lambda: store.keep("more", RED), most=12)
        self.assertIsNone(store.keep("k3", BLUE))
        self.assertEqual((len(store.labels()), store.many()), (12, 13))
        store.forget("k5")
        store.keep("more", RED)
        self.assertEqual(len(store.labels()), 12)
        self.assertRefused(store, TooMany, lambda: store.keep("k5", RED), most=12)

    def test_errors_in_their_order(self):
        store = started()
        for label in [*not_names(), *anything()]:
            if label not in ("a", "x"):
                self.assertRefused(store, NoName, lambda: store.keep(label, FAR, at="x"), name=label)
        for at in [None, 1, *not_times()]:
            self.assertRefused(store, OtherGrid, lambda: store.keep("a", FAR, at=at))
        for at in not_times():
            self.assertRefused(store, NoTime, lambda: store.keep("a", RED, at=at))
        for at in range(9):
            store.keep("k" + str(at), RED)
        self.assertRefused(store, NoTime, lambda: store.keep("a", RED, at="x"))
        self.assertRefused(store, TooMany, lambda: store.keep("a", RED, at=1), most=12)
        self.assertRefused(store, NoName, lambda: store.keep("sum", RED, at=1), name="sum")

    def test_labels_that_are_not_in_use(self):
        store = started()
        for label in [*anything(), *words_that_are_no_names(), "other", "no", "nows"]:
            self.assertRefused(store, NoName, lambda: store.answer(label), name=label)
            self.assertRefused(store, NoName, lambda: store.forget(label), name=label)

    def test_forget(self):
        store = started()
        self.assertIsNone(store.forget("then"))
        self.assertEqual(store.labels(), ["blue", "now"])
        self.assertRefused(store, NoName, lambda: store.answer("then"), name="then")
        self.assertRefused(store, NoName, lambda: store.forget("then"), name="then")
        self.assertEqual(store.add(Planned(9, "p", BLUE, 1)), {"now": "same", "blue": "same"})

    def test_what_is_done_to_the_answers(self):
        store = started()
        store.labels().clear()
        store.add(Planned(9, "p", BLUE, 1)).clear()
        store.would(Planned(10, "q", BLUE, 1)).clear()
        store.trial([Planned(10, "q", BLUE, 1)])[0].clear()
        self.assertEqual(store.labels(), ["blue", "now", "then"])
        self.assertEqual(set(store.drop("p")), {"blue", "now", "then"})


class ChangeTest(StoreCase):
    def test_add(self):
        store = started()
        entry = Reading(5, "y", BLUE, 1, 0)
        self.assertEqual(store.add(entry), {"now": "same", "then": "same", "blue": "narrower"})
        self.assertEqual(texts(store.answer("blue")), ("1", "1"))
        self.assertEqual(store.book[entry.name], entry)
        self.assertEqual(Store(Book(GRID)).add(entry), {})

    def test_drop(self):
        store = started()
        self.assertEqual(store.drop("leak"), {"now": "narrower", "then": "same", "blue": "same"})
        self.assertEqual(store.drop("x"), {"now": "wider", "then": "wider", "blue": "same"})
        self.assertEqual((store.book, store.answer("now")), (Book(GRID), None))

    def test_none_is_the_last_moment_of_now(self):
        store = Store(Book(GRID, [Reading(1, "x", RED, 5, 2)]))
        store.keep("now", RED)
        store.keep("one", RED, at=1)
        store.keep("far", RED, at=99)
        words = store.add(Exact(100, "buy", GRID, (4, 0)))
        self.assertEqual(words, {"now": "moved", "one": "same", "far": "same"})
        self.assertEqual([texts(store.answer(label)) for label in store.labels()], [("3", "7"), ("7", "11"), ("3", "7")])

    def test_errors_of_add(self):
        store = started()
        adders = (store.add, store.would, lambda entry: store.trial([entry]))
        for adder in adders:
            for other in anything():
                if not isinstance(other, (Reading, Planned, Exact, Rough)):
                    self.assertRefused(store, NoBook, lambda: adder(other), word="entries")
            self.assertRefused(store, OtherGrid, lambda: adder(Reading(1, "x", FAR, 1, 1)))
            self.assertRefused(store, SameTime, lambda: adder(Reading(3, "x", RED, 900, 1)), time=3)
            self.assertRefused(store, SameName, lambda: adder(Reading(7, "leak", RED, 900, 1)), name="leak")
            self.assertRefused(store, Clash, lambda: adder(Reading(7, "z", RED, 900, 1)))
            self.assertRefused(store, Clash, lambda: adder(Reading(7, "z", RED, 9, Ratio(99, 100))))
        full = Store(Book(GRID, [Planned(at, "p" + str(at), RED, 1) for at in range(10)]))
        for adder in (full.add, full.would, lambda entry: full.trial([entry])):
            self.assertRefused(full, TooMany, lambda: adder(Reading(70, "z", NOTHING, 900, 1)), most=10)
        store.add(Reading(7, "z", RED, 9, 1))
        self.assertEqual(texts(store.answer("now")), ("8", "8"))

    def test_errors_of_drop(self):
        store = started()
        for name in [*anything(), *words_that_are_no_names(), "now", "y", "leaks"]:
            if name != "x":
                self.assertRefused(store, NoName, lambda: store.drop(name), name=name)
        # The deed bears the book: without it the two readings clash.
        for deed in (Rough(3, "deed", GRID, 0, 4, 1), Exact(3, "deed", GRID, (4, 0))):
            store = Store(Book(GRID, [Reading(1, "x", RED, 5, 1), deed, Reading(5, "y", RED, 9, 1)]))
            store.keep("now", RED)
            self.assertRefused(store, Clash, lambda: store.drop("deed"))
            store.drop("x")
            store.drop("deed")
            self.assertEqual(store.book.names(), ["y"])

    def test_would(self):
        store = started()
        for entry in (Reading(5, "y", BLUE, 1, 0), Exact(5, "buy", GRID, (4, 4)), Rough(5, "r", GRID, 0, 1, 1)):
            before = state_of(store)
            words = store.would(entry)
            self.assertEqual(state_of(store), before)
            self.assertEqual(store.add(entry), words)
            store.back()
            self.assertEqual(state_of(store), before)

    def test_trial(self):
        entries = [Reading(5, "y", BLUE, 1, 2), Exact(6, "buy", GRID, (4, 4)), Reading(7, "z", BLUE, 5, 1)]
        store = started()
        before = state_of(store)
        wanted = [
            {"now": "same", "then": "same", "blue": "narrower"}, {"now": "moved", "then": "same", "blue": "moved"},
            {"now": "same", "then": "same", "blue": "narrower"},
        ]
        for told in (entries, tuple(entries)):
            found = store.trial(told)
            self.assertIs(type(found), list)
            self.assertEqual(found, wanted)
        self.assertEqual((store.trial([]), store.trial(())), ([], []))
        self.assertEqual(state_of(store), before)
        self.assertEqual([store.add(entry) for entry in entries], wanted)

    def test_a_trial_that_goes_wrong(self):
        store = started()
        good = Reading(5, "y", BLUE, 1, 2)
        for error, wrong in [(NoBook, 5), (SameTime, Exact(5, "e", GRID, (0, 0))), (SameName, Exact(6, "y", GRID, (0, 0))),
                             (Clash, Reading(8, "z", BLUE, 9, 1)), (OtherGrid, Exact(8, "e", FAR_GRID, (0, 0)))]:
            self.assertRefused(store, error, lambda: store.trial([good, wrong, good]))
            self.assertRefused(store, error, lambda: store.trial((good, wrong)))
        # A clash in the middle goes on, even if a later deed would bear it.
        deed = Exact(6, "buy", GRID, (0, 8))
        late = Reading(8, "z", BLUE, 9, 1)
        self.assertRefused(store, Clash, lambda: store.trial([good, late, deed]))
        self.assertEqual(len(store.trial([good, deed, late])), 3)
        for other in not_sequences():
            self.assertRefused(store, NoBook, lambda: store.trial(other), word="entries")

    def test_two_stores_of_one_book(self):
        book = Book(GRID, [Reading(1, "x", RED, 5, 2)])
        one, two = Store(book), Store(book)
        one.keep("now", RED)
        one.add(Exact(4, "buy", GRID, (1, 1)))
        self.assertEqual((two.book, two.labels(), two.many()), (book, [], 0))
        two.keep("now", BLUE)
        two.drop("x")
        self.assertEqual((one.book.names(), texts(one.answer("now"))), (["x", "buy"], ("4", "8")))
        self.assertEqual(book.names(), ["x"])


class BackTest(StoreCase):
    def test_through_all_kinds_of_changes(self):
        store = Store(Book(GRID, [Reading(1, "x", RED, 5, 2)]))
        changes = [
            lambda: store.keep("now", RED), lambda: store.keep("blue", BLUE, at=4), lambda: store.keep("now", RED, at=1),
            lambda: store.add(Exact(3, "buy", GRID, (4, HALF))), lambda: store.add(Reading(4, "y", BLUE, 2, 1)),
            lambda: store.forget("now"), lambda: store.drop("buy"), lambda: store.keep("blue", BLUE, at=4),
            lambda: store.keep("red", RED), lambda: store.drop("x"), lambda: store.forget("blue"),
        ]
        states = [state_of(store)]
        for number, change in enumerate(changes, start=1):
            change()
            states.append(state_of(store))
            self.assertEqual(store.many(), number)
        while len(states) > 1:
            states.pop()
            self.assertIsNone(store.back())
            self.assertEqual(state_of(store), states[-1])
        self.assertRefused(store, NoUndo, store.back)
        self.assertEqual(store.many(), 0)

    def test_what_raised_is_no_change(self):
        store = started()
        for wrong in (lambda: store.add(5), lambda: store.drop("y"), lambda: store.keep("A", RED),
                      lambda: store.forget("y"), lambda: store.add(Reading(9, "z", RED, 99, 0))):
            with self.assertRaises(ToldError):
                wrong()
        self.assertEqual(store.many(), 3)
        store.would(Planned(9, "z", RED, 1))
        store.trial([Planned(9, "z", RED, 1)])
        store.answer("now")
        self.assertEqual(store.many(), 3)

    def test_an_earlier_question_with_its_moment(self):
        store = started()
        store.keep("then", BLUE)
        store.forget("now")
        store.back()
        store.back()
        words = store.add(Exact(9, "buy", GRID, (1, 1)))
        self.assertEqual(words, {"now": "moved", "then": "same", "blue": "same"})
        self.assertEqual(texts(store.answer("then")), ("3", "7"))
        self.assertEqual(store.many(), 4)

    def test_changes_behind_a_back(self):
        store = started()
        store.back()
        store.keep("more", RED)
        store.back()
        self.assertEqual((store.labels(), store.many()), (["now", "then"], 2))


class WordTest(unittest.TestCase):
    def told(self, book, change, *, at=None, question=RED):
        store = Store(Book(GRID, book))
        store.keep("k", question, at=at)
        return change(store)["k"]

    def test_same(self):
        self.assertEqual(self.told([], lambda store: store.add(Exact(1, "e", GRID, (5, 5)))), "same")
        self.assertEqual(self.told([], lambda store: store.add(Reading(1, "x", BLUE, 5, 1))), "same")
        told = [Reading(1, "x", RED, 5, 2)]
        for entry in (Planned(2, "p", RED, 0), Reading(2, "y", RED, 5, 2), Reading(2, "y", RED, 4, 3),
                      Exact(2, "e", GRID, (0, 3)), Rough(2, "r", GRID, 1, 0, 3), Rough(2, "r", GRID, 0, 0, 0)):
            self.assertEqual(self.told(told, lambda store: store.add(entry)), "same")

    def test_moved(self):
        told = [Reading(1, "x", RED, 5, 2)]
        for change in (1, -1, HALF, -HALF, 10 ** 30, Ratio(-1, 10 ** 30)):
            self.assertEqual(self.told(told, lambda store: store.add(Exact(2, "e", GRID, (change, 0)))), "moved")
            self.assertEqual(self.told(told, lambda store: store.add(Rough(2, "e", GRID, 0, change, 0))), "moved")
        # A stretch of one number moves, too.
        exact = [Reading(1, "x", RED, 5, 0)]
        self.assertEqual(self.told(exact, lambda store: store.add(Exact(2, "e", GRID, (-3, 0)))), "moved")
        deed = Exact(2, "e", GRID, (-3, 0))
        self.assertEqual(self.told([*told, deed], lambda store: store.drop("e")), "moved")

    def test_narrower(self):
        told = [Reading(1, "x", RED, 5, 2)]
        for value, slip in [(5, 1), (6, 1), (4, 1), (8, 1), (2, 1), (7, 2), (3, 2), (5, 0), (7, 0)]:
            self.assertEqual(self.told(told, lambda store: store.add(Reading(2, "y", RED, value, slip))), "narrower")
        self.assertEqual(self.told([], lambda store: store.add(told[0])), "narrower")

    def test_wider(self):
        told = [Reading(1, "x", RED, 5, 2)]
        for more in (Reading(2, "y", RED, 5, 1), Reading(2, "y", RED, 6, 1), Reading(2, "y", RED, 4, 1)):
            self.assertEqual(self.told([*told, more], lambda store: store.drop("y")), "wider")
        self.assertEqual(self.told(told, lambda store: store.drop("x")), "wider")
        for amount, bound in [(0, 1), (1, 1), (-1, 1), (HALF, HALF), (1, 3)]:
            self.assertEqual(self.told(told, lambda store: store.add(Rough(2, "r", GRID, 0, amount, bound))), "wider")

    def test_other(self):
        told = [Reading(1, "x", RED, 5, 2)]
        for amount, bound in [(2, 1), (-2, 1), (HALF, Ratio(1, 3)), (-9, 1)]:
            self.assertEqual(self.told(told, lambda store: store.add(Rough(2, "r", GRID, 0, amount, bound))), "other")
        entries = [*told, Rough(2, "r", GRID, 0, 2, 1)]
        self.assertEqual(self.told(entries, lambda store: store.drop("r")), "other")

    def test_from_endless_and_back(self):
        store = Store(Book(GRID))
        store.keep("k", RED)
        words = [store.add(Reading(1, "x", RED, 5, 0))["k"], store.drop("x")["k"], store.add(Exact(1, "e", GRID, (1, 1)))["k"]]
        self.assertEqual(words, ["narrower", "wider", "same"])


class FactsTest(unittest.TestCase):
    def assertFresh(self, store, kept):
        """What the store answers is the stretch of its book of now."""
        for label in store.labels():
            question, at = kept[label]
            self.assertEqual(store.answer(label), stretch(store.book, question, at=at))

    def words(self, book, kept, entry):
        store = Store(book)
        for label, (question, at) in kept.items():
            store.keep(label, question, at=at)
        return store.add(entry)

    def test_answers_behind_each_change(self):
        done = 0
        for seed in range(40):
            maker = Maker(seed)
            grid = Grid([("kind", ["a", "b", "c"][:maker.dice.randint(1, 3)])])
            store, kept, past = Store(Book(grid)), {}, []
            for step in range(25):
                entry = maker.dice.choice([
                    Reading(step, "n" + str(step), maker.question(grid), maker.number(4), maker.reach(5)),
                    Planned(step, "n" + str(step), maker.question(grid), maker.reach(2)),
                    Exact(step, "n" + str(step), grid, [maker.number(2) for _ in range(grid.size)]),
                    Rough(step, "n" + str(step), grid, maker.dice.randrange(grid.size), maker.number(2), maker.reach(2)),
                ])
                label = maker.dice.choice("abcd")
                question, at = maker.question(grid), maker.moment()
                name = "n" + str(maker.dice.randrange(step + 1))
                before = dict(kept)
                kind = maker.dice.choice(["keep", "keep", "add", "add", "add", "drop", "forget", "back"])
                try:
                    if kind == "keep":
                        self.assertEqual(store.keep(label, question, at=at), stretch(store.book, question, at=at))
                        kept = {**kept, label: (question, at)}
                    if kind == "add":
                        store.add(entry)
                    if kind == "drop":
                        store.drop(name)
                    if kind == "forget":
                        store.forget(label)
                        kept = {other: kept[other] for other in kept if other != label}
                    if kind == "back":
                        store.back()
                        kept = past.pop()
                    else:
                        past.append(before)
                    done += 1
                except ToldError:
                    self.assertEqual(kept, before)
                self.assertEqual(store.labels(), sorted(kept))
                self.assertEqual(store.many(), len(past))
                self.assertFresh(store, kept)
        self.assertGreater(done, 500)

    def test_what_each_kind_of_entry_does(self):
        seen = {}
        for book, question, _ in small_cases(150, 38):
            if reckoning.has_clash(book):
                continue
            maker = Maker(len(seen) + len(book))
            grid = book.grid
            last = -9 if book.last() is None else book.last()
            kept = {"a": (question, None), "b": (maker.question(grid), None), "c": (question, last)}
            kept["d"] = (question, maker.dice.randint(-9, last))
            reading = Reading(last + 1, "new", question, maker.number(3), 30)
            planned = Planned(last + 1, "new", question, 0)
            exact = Exact(last + 1, "new", grid, [maker.number(2) for _ in range(grid.size)])
            rough = Rough(last + 1, "new", grid, maker.dice.randrange(grid.size), 0, maker.reach(2))
            lets = [(reading, ("same", "narrower")), (planned, ("same",)), (exact, ("same", "moved")), (rough, ("same", "wider"))]
            for entry, let in lets:
                words = self.words(book, kept, entry)
                self.assertEqual(set(words), set(kept))
                for label, word in words.items():
                    self.assertIn(word, let)
                    if label in ("c", "d") and isinstance(entry, (Exact, Rough)):
                        self.assertEqual(word, "same")
                    seen[type(entry), word] = seen.get((type(entry), word), 0) + 1
        for key in [(Reading, "same"), (Reading, "narrower"), (Exact, "moved"), (Rough, "wider")]:
            self.assertGreater(seen[key], 10)


if __name__ == "__main__":
    unittest.main()
