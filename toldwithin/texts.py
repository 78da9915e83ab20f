"""The texts of questions, entries and books: how they are written, and how they are read."""

from toldwithin.books import Book
from toldwithin.entries import Exact, Planned, Reading, Rough
from toldwithin.errors import BadText, NoEntry, NoQuestion, NoRatio
from toldwithin.kinds import MOST_DIGITS, is_integer_text
from toldwithin.questions import Question
from toldwithin.ratios import Ratio


def question_text(question):
    return numbers_text(question.weights)


def numbers_text(numbers):
    return ",".join([number.text() for number in numbers])


def entry_text(entry):
    return " ".join(words_of_entry(entry))


def words_of_entry(entry):
    time, name = str(entry.time), entry.name
    if isinstance(entry, Reading):
        return ["read", time, name, question_text(entry.question), entry.value.text(), entry.slip.text()]
    if isinstance(entry, Planned):
        return ["plan", time, name, question_text(entry.question), entry.slip.text()]
    if isinstance(entry, Exact):
        return ["exact", time, name, numbers_text(entry.changes)]
    return ["rough", time, name, str(entry.place), entry.amount.text(), entry.bound.text()]


def book_text(book):
    return "\n".join([entry_text(entry) for entry in book.entries])


def check_string(text):
    if not isinstance(text, str):
        raise BadText(-1)


def read_question(grid, text):
    """The question of a grid whose text this is."""
    check_string(text)
    try:
        return question_in(grid, text)
    except (NoRatio, NoQuestion):
        raise BadText(0) from None


def read_entry(grid, text):
    """The entry of a grid whose text this is."""
    check_string(text)
    words = text.split(" ")
    if words[0] not in READERS or len(words) != LENGTHS[words[0]]:
        raise BadText(0)
    reader = READERS[words[0]]
    try:
        return reader(grid, words)
    except (NoRatio, NoQuestion, NoEntry):
        raise BadText(0) from None


def read_book(grid, text):
    """The book of a grid whose text this is, with its lines in any order."""
    check_string(text)
    entries = []
    for number, line in enumerate(lines_of(text), start=1):
        try:
            entries.append(read_entry(grid, line))
        except BadText:
            raise BadText(number) from None
    return Book(grid, entries)


def lines_of(text):
    """The lines of the text of a book: that of a book without entries has none."""
    return text.split("\n") if text != "" else []


def question_in(grid, word):
    return Question(grid, numbers_in(word))


def numbers_in(word):
    """The numbers whose texts stand in a word, with a comma between two."""
    return [Ratio.read(part) for part in word.split(",")]


def integer_in(word):
    """The integer that a word writes; the texts of entries have none of more digits than numbers have."""
    if not is_integer_text(word) or len(word.removeprefix("-")) > MOST_DIGITS:
        raise BadText(0)
    return int(word)


def reading_in(grid, words):
    _, time, name, question, value, slip = words
    return Reading(integer_in(time), name, question_in(grid, question), Ratio.read(value), Ratio.read(slip))


def planned_in(grid, words):
    _, time, name, question, slip = words
    return Planned(integer_in(time), name, question_in(grid, question), Ratio.read(slip))


def exact_in(grid, words):
    _, time, name, changes = words
    return Exact(integer_in(time), name, grid, numbers_in(changes))


def rough_in(grid, words):
    _, time, name, place, amount, bound = words
    return Rough(integer_in(time), name, grid, integer_in(place), Ratio.read(amount), Ratio.read(bound))


# For the first word of an entry's text: what reads it, and how many words it has.
READERS = {"read": reading_in, "plan": planned_in, "exact": exact_in, "rough": rough_in}
LENGTHS = {"read": 6, "plan": 5, "exact": 4, "rough": 6}
