"""Over the whole program: many words for one question, and many ways to one book."""

import random
import unittest

from tests import reckoning
from tests.makers import Maker, full_book, small_cases
from toldwithin.books import Book
from toldwithin.branches import merged
from toldwithin.buying import Goal, Offer, bought, cheapest, evidence
from toldwithin.clashes import excuses
from toldwithin.desk import Desk
from toldwithin.entries import Exact, Planned, Reading, Rough
from toldwithin.errors import NoName
from toldwithin.forgetting import enough, folded, lost, needless, trimmed
from toldwithin.grids import Grid
from toldwithin.histories import History
from toldwithin.meanings import meaning
from toldwithin.parsing import parse, show
from toldwithin.promises import least_error
from toldwithin.questions import Question, sum_of
from toldwithin.ratios import Ratio
from toldwithin.stores import Store
from toldwithin.stretches import stretch
from toldwithin.texts import book_text, entry_text, question_text, read_book, read_question
from toldwithin.worth import gain

GRID = Grid([("kind", ["red", "blue"]), ("year", ["a", "b"])])


def stretch_text(pair):
    return "endless" if pair is None else f"{pair[0].text()} to {pair[1].text()}"


def error_text(error):
    return "unbounded" if error is None else error.text()


def line_of(entry):
    """The line of a desk that adds an entry."""
    if isinstance(entry, Reading):
        return f"read {entry.time} {entry.name} {entry.value.text()} {entry.slip.text()} {in_words(entry.question)}"
    if isinstance(entry, Planned):
        return f"plan {entry.time} {entry.name} {entry.slip.text()} {in_words(entry.question)}"
    return entry_text(entry)


def in_words(question):
    """A question said out cell by cell."""
    grid = question.grid
    parts = []
    for cell, weight in zip(grid.cells, question.weights):
        wish = ", ".join(f"{name}={member}" for (name, _), member in zip(grid.axes, cell))
        parts.append(f"{weight.top} * sum({wish}) / {weight.bottom}")
    return " + ".join(parts)


def told_desk(book, dice):
    """A desk whose present book is this one."""
    desk = Desk(book.grid)
    lines = [line_of(entry) for entry in book]
    dice.shuffle(lines)
    desk.tell_all(lines)
    return desk


def drawn_books():
    found = [book for book, _, _ in small_cases(60, 46) if not reckoning.has_clash(book)]
    found += [Maker(seed).book(GRID, 4, 2, 2, 1, True) for seed in range(25)]
    return found + [full_book(seed, 2) for seed in range(3)]


class ManyWordsTest(unittest.TestCase):
    def test_one_question_in_many_words(self):
        endless = 0
        for seed, book in enumerate(drawn_books()):
            maker = Maker(seed)
            desk = told_desk(book, maker.dice)
            self.assertEqual(desk.book, book)
            question = maker.question(book.grid)
            if seed % 3 and reckoning.entries_of(book, Reading):
                question = maker.dice.choice(reckoning.entries_of(book, Reading)).question * maker.number(3)
            desk.tell(f"let q {in_words(question)}")
            words = ["q", in_words(question), f"2 * (({in_words(question)}) / 2)", "q / 2 + q / 2", "-(-q)", "q - 0 * q",
                     show(parse(f"{in_words(question)}")), "3 * q - (q + q)"]
            asked = [question, read_question(book.grid, question_text(question)), question.over(2) * 2, question + question * 0]
            asked += [meaning(parse(word), book.grid, {"q": question}) for word in words]
            for at in (None, maker.moment() or 0):
                pair, error = stretch(book, question, at=at), least_error(book, question, at=at)
                endless += pair is None
                moment = "" if at is None else f"@{at} "
                for other in asked:
                    self.assertEqual(other, question)
                    self.assertEqual(stretch(book, other, at=at), pair)
                    self.assertEqual(least_error(book, other, at=at), error)
                for word in words:
                    self.assertEqual(desk.tell(f"ask {moment}{word}"), stretch_text(pair))
                    self.assertEqual(desk.tell(f"error {moment}{word}"), error_text(error))
        self.assertGreater(endless, 10)

    def test_lists(self):
        for seed, book in enumerate(drawn_books()):
            desk = told_desk(book, Maker(seed).dice)
            for axis, members in book.grid.axes:
                asked = [sum_of(book.grid, [(axis, [member])]) for member in members]
                found = [stretch_text(stretch(book, question)) for question in asked]
                self.assertEqual(desk.tell(f"ask each({axis})"), "; ".join(found))
                found = [error_text(least_error(book, question * -2, at=3)) for question in asked]
                self.assertEqual(desk.tell(f"error @3 -2 * each({axis})"), "; ".join(found))

    def test_the_desk_and_the_functions(self):
        for seed, book in enumerate(drawn_books()):
            desk = told_desk(book, Maker(seed).dice)
            self.assertEqual(desk.tell("needless"), " ".join(needless(book)) or "none")
            self.assertEqual(desk.tell("excuses 2"), "; ".join(",".join(lot) or "nothing" for lot in excuses(book, 2)))
            desk.tell("trim")
            self.assertEqual(desk.book, trimmed(book))
            desk.tell_all(["undo", "fold"])
            self.assertEqual(desk.book, folded(book))


class OneBookTest(unittest.TestCase):
    def test_in_any_order_parted_merged_written_and_read(self):
        dice = random.Random(47)
        for book in drawn_books():
            entries = list(book)
            dice.shuffle(entries)
            self.assertEqual(Book(book.grid, entries), book)
            parts = [dice.randrange(3) for _ in entries]
            base, one, other = [
                Book(book.grid, [entry for entry, part in zip(entries, parts) if part in (0, own)]) for own in (0, 1, 2)
            ]
            self.assertEqual(merged(base, one, other), book)
            texts = book_text(one).split("\n") + book_text(other).split("\n")
            lines = sorted({line for line in texts if line})
            dice.shuffle(lines)
            self.assertEqual(read_book(book.grid, "\n".join(lines)), book)

            def lines_of(part):
                return [line_of(entry) for entry, own in zip(entries, parts) if own == part]

            desk = Desk(book.grid)
            desk.tell_all([*lines_of(0), "branch other", *lines_of(1), "go other", *lines_of(2), "merge main"])
            self.assertEqual(desk.book, book)
            desk.tell_all(["go main", "merge other"])
            self.assertEqual(desk.book, book)
            self.assertEqual(desk.tell("book"), book_text(book).replace("\n", "; ") or "empty")
            store = Store(Book(book.grid, [entry for entry in entries if not isinstance(entry, Reading)]))
            for entry in entries:
                if isinstance(entry, Reading):
                    store.add(entry)
            self.assertEqual(store.book, book)


class ConventionsTest(unittest.TestCase):
    def test_lists_and_tuples_count_as_equal(self):
        red = Question(GRID, [1, 0, 0, 0])
        self.assertEqual(red, Question(GRID, (1, 0, 0, 0)))
        entries = [Reading(1, "x", red, 5, 1), Exact(2, "e", GRID, [1, 0, 0, 0]), Rough(3, "r", GRID, 0, 1, 1)]
        book = Book(GRID, entries)
        self.assertEqual(book, Book(GRID, tuple(entries)))
        self.assertEqual(entries[1], Exact(2, "e", GRID, (1, 0, 0, 0)))
        self.assertEqual(History([1, 2], {"a": 1, "b": 2}), History((1, 2), {"b": 2, "a": 1}))
        offers, goals = [Offer("a", red, 1, 1), Offer("b", red, 0, 2)], [Goal(red, 1)]
        for call in (cheapest, evidence):
            self.assertEqual(call(book, offers, goals), call(book, tuple(offers), tuple(goals)))
        self.assertEqual(bought(book, offers, ["b", "a"]), bought(book, tuple(offers), ("b", "a")))
        self.assertEqual(enough(book, [red]), enough(book, (red,)))
        self.assertEqual(lost(book, ["x"]), lost(book, ("x",)))
        self.assertEqual(Store(book).trial([]), Store(book).trial(()))

    def test_kept_sequences_and_dicts_are_copies(self):
        changes, entries, extras = [1, 0, 0, 0], [], {"r": 1}
        deed, history = Exact(2, "e", GRID, changes), History([1], extras)
        entries.append(deed)
        book = Book(GRID, entries)
        changes[0], extras["r"] = 9, 9
        entries.clear()
        self.assertEqual((deed.changes[0], len(book), history.extras), (1, 1, {"r": 1}))

    def test_the_same_choice_every_time(self):
        book = full_book(3, 2)
        question = book.entries[-1].question if isinstance(book.entries[-1], Reading) else Maker(3).question(book.grid)
        for call in (lambda: gain(book, "l0", question), lambda: trimmed(book), lambda: needless(book)):
            self.assertEqual(call(), call())
        with self.assertRaises(NoName):
            gain(book, "r0", question)
        self.assertEqual(Ratio(1, 2), Ratio(2, 4))


if __name__ == "__main__":
    unittest.main()
