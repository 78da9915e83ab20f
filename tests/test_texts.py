"""Texts of questions, entries and books: [45]."""

import random
import unittest

from tests.makers import small_cases
from tests.others import not_strings, words_that_are_no_names
from toldwithin.books import Book
from toldwithin.entries import Exact, Planned, Reading, Rough
from toldwithin.errors import BadText, SameName, SameTime, TooMany
from toldwithin.grids import Grid
from toldwithin.questions import Question
from toldwithin.ratios import Ratio
from toldwithin.texts import book_text, entry_text, question_text, read_book, read_entry, read_question

GRID = Grid([("kind", ["red", "blue"])])
RED, BLUE = Question(GRID, (1, 0)), Question(GRID, (0, 1))
NINES, MORE = 10 ** 60 - 1, 10 ** 60
ENTRIES = {
    "read 1 x 1,0 10 1": Reading(1, "x", RED, 10, 1),
    "read -7 x1 -1/2,3 -2/3 0": Reading(-7, "x1", Question(GRID, (Ratio(-1, 2), 3)), Ratio(-2, 3), 0),
    "read 0 read 0,0 0 5/4": Reading(0, "read", Question(GRID, (0, 0)), 0, Ratio(5, 4)),
    "plan 12 p 1,1 1/2": Planned(12, "p", RED + BLUE, Ratio(1, 2)),
    "plan -1 abcdefgh 0,-1 0": Planned(-1, "abcdefgh", -BLUE, 0),
    "exact 3 buy 0,4": Exact(3, "buy", GRID, (0, 4)),
    "exact 30 e -1/3,0": Exact(30, "e", GRID, (Ratio(-1, 3), 0)),
    "rough 2 leak 0 -2 1": Rough(2, "leak", GRID, 0, -2, 1),
    "rough -20 r 1 1/7 3/5": Rough(-20, "r", GRID, 1, Ratio(1, 7), Ratio(3, 5)),
    "rough 5 r 1 0 0": Rough(5, "r", GRID, 1, 0, 0),
}
SIGNS = " ,-/+.0123456789abcdeghlnoprtux@*"


class TextsCase(unittest.TestCase):
    def assertBad(self, place, reader, text, grid=GRID):
        with self.subTest(repr(text)):
            with self.assertRaises(BadText) as caught:
                reader(grid, text)
            self.assertIs(type(caught.exception), BadText)
            self.assertEqual(caught.exception.place, place)


class QuestionTest(TextsCase):
    def test_both_ways(self):
        for text, weights in [("1,0", (1, 0)), ("-1/2,3", (Ratio(-1, 2), 3)), ("0,0", (0, 0)),
                              (f"{NINES},-{NINES}", (NINES, -NINES)), (f"1/{NINES},-2/{NINES}", (Ratio(1, NINES), Ratio(-2, NINES)))]:
            question = Question(GRID, weights)
            self.assertEqual(question_text(question), text)
            self.assertEqual(read_question(GRID, text), question)
        one = Grid([("kind", ["red"])])
        self.assertEqual((question_text(Question(one, [7])), read_question(one, "7")), ("7", Question(one, [7])))
        eight = Grid([("a", ["a", "b"]), ("b", ["a", "b"]), ("c", ["a", "b"])])
        self.assertEqual(read_question(eight, "1,2,3,4,5,6,7,8/3").weights[-1], Ratio(8, 3))

    def test_wrong_texts(self):
        for text in ["", "1", "1,", ",1", "1,0,0", "1,0,", "1,,0", "1, 0", " 1,0", "1,0 ", "1 0", "1;0", "1,+1", "1,-0", "01,0",
                     "1,00", "2/4,0", "1/1,0", "0/1,0", "1/0,0", "1/-2,0", "1,1.5", "a,b", "1,0\n", "--1,0", "1/2/3,0",
                     f"{MORE},0", f"-{MORE},0", f"0,1/{MORE}", "1,\u0661"]:
            self.assertBad(0, read_question, text)
        for other in not_strings():
            self.assertBad(-1, read_question, other)

    def test_long_numbers_are_written(self):
        self.assertEqual(question_text(Question(GRID, (MORE, Ratio(1, 10 ** 999)))), f"{MORE},1/{10 ** 999}")


class EntryTest(TextsCase):
    def test_both_ways(self):
        for text, entry in ENTRIES.items():
            self.assertEqual(entry_text(entry), text)
            found = read_entry(GRID, text)
            self.assertEqual(found, entry)
            self.assertEqual(entry_text(found), text)

    def test_many_digits(self):
        for entry in [Reading(NINES, "x", RED, Ratio(NINES, NINES - 1), Ratio(1, NINES)), Planned(-NINES, "x", RED * NINES, NINES),
                      Exact(-NINES, "x", GRID, (-NINES, Ratio(-1, NINES))), Rough(NINES, "x", GRID, 1, -NINES, NINES)]:
            self.assertEqual(read_entry(GRID, entry_text(entry)), entry)
        for entry in [Reading(MORE, "x", RED, 1, 1), Reading(-MORE, "x", RED, 1, 1), Reading(1, "x", RED * MORE, 1, 1),
                      Reading(1, "x", RED, Ratio(1, MORE), 1), Reading(1, "x", RED, 1, MORE), Planned(MORE, "x", RED, 1),
                      Planned(1, "x", RED, Ratio(3, MORE)), Exact(-MORE, "x", GRID, (0, 0)), Exact(1, "x", GRID, (-MORE, 0)),
                      Rough(MORE, "x", GRID, 0, 0, 0), Rough(1, "x", GRID, 0, -MORE, 1), Rough(1, "x", GRID, 0, 0, MORE)]:
            self.assertIn("1" + "0" * 60, entry_text(entry))
            self.assertBad(0, read_entry, entry_text(entry))

    def test_wrong_words(self):
        for text in [
            "", " ", "read", "read 1 x 1,0 10", "read 1 x 1,0 10 1 1", "plan 1 x 1,0", "plan 1 x 1,0 1 1", "exact 1 x",
            "exact 1 x 1,0 1", "rough 1 x 0 1", "rough 1 x 0 1 1 1", "Read 1 x 1,0 10 1", "reads 1 x 1,0 10 1", "let 1 x 1,0 1",
            " read 1 x 1,0 10 1", "read 1 x 1,0 10 1 ", "read  1 x 1,0 10 1", "read 1  x 1,0 10 1", "read 1 x 1,0  1",
            "read 1 x 1,0 10  1", "exact 1 x ", "exact 1  1,0", "exact 1 x 1, 0", "1 read x 1,0 10 1", "read\t1 x 1,0 10 1",
            "exact 1 x 1,0\n", "exact 1 x 1,0\nexact 2 y 1,0", "drop x", "undo",
        ]:
            self.assertBad(0, read_entry, text)

    def test_wrong_times(self):
        for time in ["-0", "00", "01", "-01", "+1", "1.0", "1/1", "2/1", "--1", "-", "1-", "a", "0x1", "1_0", "1e3", "\u0661", "", "@1"]:
            self.assertBad(0, read_entry, f"read {time} x 1,0 10 1")
            self.assertBad(0, read_entry, f"plan {time} x 1,0 1")
            self.assertBad(0, read_entry, f"exact {time} x 1,0")
            self.assertBad(0, read_entry, f"rough {time} x 0 1 1")

    def test_wrong_names(self):
        for name in words_that_are_no_names():
            for text in (f"read 1 {name} 1,0 10 1", f"plan 1 {name} 1,0 1", f"exact 1 {name} 1,0", f"rough 1 {name} 0 1 1"):
                self.assertBad(0, read_entry, text)

    def test_wrong_numbers(self):
        for number in ["2/4", "1/1", "-0", "+1", "01", "1/0", "1/-2", "1.5", "a", "-", "/", "1/", "/2", "", "0/2", f"{MORE}",
                       f"-{MORE}", f"1/{MORE}", "1,0"]:
            self.assertBad(0, read_entry, f"read 1 x 1,0 {number} 1")
            self.assertBad(0, read_entry, f"read 1 x 1,0 1 {number}")
            self.assertBad(0, read_entry, f"plan 1 x 1,0 {number}")
            self.assertBad(0, read_entry, f"rough 1 x 0 {number} 1")
            self.assertBad(0, read_entry, f"rough 1 x 0 1 {number}")
            if number != "1,0":
                self.assertBad(0, read_entry, f"read 1 x 1,{number} 1 1")
                self.assertBad(0, read_entry, f"exact 1 x {number},0")
        for text in ("read 1 x 1,0 1 -1", "plan 1 x 1,0 -1/2", "rough 1 x 0 1 -1"):
            self.assertBad(0, read_entry, text)

    def test_numbers_of_weights(self):
        for weights in ("1", "1,0,0", "1,", ",", ",1", "1,,0", ""):
            for text in (f"read 1 x {weights} 1 1", f"plan 1 x {weights} 1", f"exact 1 x {weights}"):
                self.assertBad(0, read_entry, text)

    def test_wrong_places(self):
        for place in ("2", "-1", "-0", "00", "1/1", "a", "+1", str(MORE), "", "red"):
            self.assertBad(0, read_entry, f"rough 1 x {place} 1 1")

    def test_other_kinds(self):
        for other in not_strings():
            self.assertBad(-1, read_entry, other)
            self.assertBad(-1, read_book, other)

    def test_each_edit_of_one_character(self):
        read, refused = 0, 0
        for text in ENTRIES:
            edits = {text[:at] + text[at + 1:] for at in range(len(text))}
            for sign in SIGNS:
                edits.update(text[:at] + sign + text[at:] for at in range(len(text) + 1))
                edits.update(text[:at] + sign + text[at + 1:] for at in range(len(text)))
            for edited in edits:
                try:
                    found = read_entry(GRID, edited)
                except BadText as wrong:
                    self.assertEqual(wrong.place, 0)
                    refused += 1
                    continue
                self.assertEqual(entry_text(found), edited)
                read += 1
        self.assertGreater(min(read, refused), 1000)


class BookTest(TextsCase):
    def test_both_ways(self):
        told = {entry.time: text for text, entry in ENTRIES.items() if entry.time != 5}
        book = Book(GRID, [ENTRIES[text] for text in told.values()])
        self.assertEqual(book_text(book), "\n".join(told[time] for time in sorted(told)))
        self.assertEqual(read_book(GRID, book_text(book)), book)
        for book, _, _ in small_cases(200, 45):
            text = book_text(book)
            self.assertEqual(text.split("\n") if text else [], [entry_text(entry) for entry in book])
            self.assertEqual(read_book(book.grid, text), book)

    def test_no_entries(self):
        self.assertEqual(book_text(Book(GRID)), "")
        self.assertEqual(read_book(GRID, ""), Book(GRID))

    def test_any_order_of_the_lines(self):
        dice = random.Random(45)
        for book, _, _ in small_cases(60, 46):
            lines = book_text(book).split("\n")
            dice.shuffle(lines)
            self.assertEqual(read_book(book.grid, "\n".join(lines)), book)

    def test_the_first_wrong_line(self):
        good = "exact 1 x 1,0\nexact 2 y 1,0"
        for text, number in [
            ("\n", 1), (f"\n{good}", 1), (f"{good}\n", 3), (f"{good}\n\n", 3), (f"{good}\n\nexact 3 z 1,0", 3), ("a", 1),
            (f"{good}\nexact 3 z 1,0,0\na", 3), (f"a\n{good}", 1), ("exact 1 x 1,0\n exact 2 y 1,0", 2), (" ", 1),
            ("exact 1 x 1,0\r\nexact 2 y 1,0", 1), ("exact 1 x 1,0; exact 2 y 1,0", 1), (f"{good}\n ", 3),
            ("exact 1 x 1,0\nexact 1 x 1,0\nexact 1 x 1", 3), (f"{good}\nrough 4 r 2 0 0\nexact 1 x 1,0", 3),
        ]:
            self.assertBad(number, read_book, text)

    def test_errors_of_the_book(self):
        for text, error, fields in [
            ("exact 2 x 1,0\nexact 1 y 1,0\nexact 2 y 1,0\nexact 1 z 0,0", SameTime, {"time": 1}),
            ("exact 2 x 1,0\nexact 1 y 1,0\nexact 3 y 1,0\nexact 4 x 0,0", SameName, {"name": "x"}),
            ("\n".join(f"exact {at} x{at} 1,0" for at in range(31)), TooMany, {"most": 30}),
            ("\n".join(f"plan {at} x{at} 1,0 1" for at in range(11)), TooMany, {"most": 10}),
            ("\n".join(f"rough {at} x{at} 0 1 1" for at in range(5)), TooMany, {"most": 4}),
        ]:
            with self.assertRaises(error) as caught:
                read_book(GRID, text)
            self.assertEqual(vars(caught.exception), fields)
        self.assertEqual(len(read_book(GRID, "\n".join(f"exact {at} x{at} 1,0" for at in range(30)))), 30)


if __name__ == "__main__":
    unittest.main()
