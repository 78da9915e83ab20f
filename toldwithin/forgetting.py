"""Forgetting: which readings are not needed, and which deeds can stand as one."""

from toldwithin.books import Book, readings_of
from toldwithin.choices import choices
from toldwithin.clashes import ascending_readings, has_one_beside, without_all
from toldwithin.drifts import drift
from toldwithin.entries import Exact
from toldwithin.errors import NoNames, NoQuestions, TooMany
from toldwithin.frames import told_frame
from toldwithin.histories import misfits
from toldwithin.kinds import is_sequence
from toldwithin.questions import Question
from toldwithin.stretches import bare_stretch, frame_without_clash, searches, stretch

MOST_QUESTIONS = 3
MOST_READINGS = 7


def needless(book):
    """The names of the readings each of which can be left out without any stretch becoming another one."""
    frame_without_clash(book)
    return [reading.name for reading in readings_of(book) if is_needless(book, reading)]


def is_needless(book, reading):
    """Whether the others tell of a reading's question all that it tells."""
    found = stretch(book.without(reading.name), reading.question, at=reading.time)
    if found is None:
        return False
    return reading.value - reading.slip <= found[0] and found[1] <= reading.value + reading.slip


def trimmed(book):
    """The book that is left when needless readings are left out one by one, the last one first."""
    frame_without_clash(book)
    left = book
    for reading in reversed(list(readings_of(book))):
        if is_needless(left, reading):
            left = left.without(reading.name)
    return left


def lost(book, names):
    """The names of those readings whose own stretch would be another one without all of them."""
    if not are_names_of_readings(book, names):
        raise NoNames()
    frame = frame_without_clash(book)
    left = told_frame(without_all(book, names))
    found = []
    for reading in readings_of(book):
        if reading.name in names:
            asked, at = reading.question, reading.time
            if bare_stretch(left, asked, at) != bare_stretch(frame, asked, at):
                found.append(reading.name)
    return found


def are_names_of_readings(book, names):
    """Whether this is a sequence of names of readings; one may stand twice."""
    known = ascending_readings(book)
    return is_sequence(names) and all([isinstance(name, str) and name in known for name in names])


def enough(book, questions):
    """The names of the fewest readings with which these questions have the same stretches behind all entries."""
    check_questions(book, questions)
    names = ascending_readings(book)
    if len(names) > MOST_READINGS:
        raise TooMany(MOST_READINGS)
    frame = frame_without_clash(book)
    wanted = [(question, bare_stretch(frame, question, None)) for question in questions]
    # Lots of readings: one of each lot has to stay, so most choices need no search. All readings are enough at last.
    needed = []
    for many in range(len(names) + 1):
        for chosen in choices(names, many):
            if not has_one_beside(needed, chosen):
                missed = missed_by(book, chosen, wanted)
                if missed is None:
                    return chosen
                needed.append(missed)


def check_questions(book, questions):
    """Refuses what is no sequence of some questions of the book's grid."""
    if not is_sequence(questions) or not 1 <= len(questions) <= MOST_QUESTIONS:
        raise NoQuestions(-1)
    for place, question in enumerate(questions):
        if not isinstance(question, Question) or question.grid != book.grid:
            raise NoQuestions(place)


def missed_by(book, chosen, wanted):
    """Names of readings one of which is missing among the chosen ones; None if these are enough.

    Pairs of a question and its bare stretch behind all entries tell what is wanted.
    """
    left = without_all(book, [name for name in ascending_readings(book) if name not in chosen])
    frame = told_frame(left)
    for question, pair in wanted:
        # An endless question stays so without some readings.
        if pair is not None:
            found = searches(frame, question, None)
            if found is None:
                return readings_that_see(book, drift(readings_of(left), question))
            low, high = found
            # A history that goes too far has to be at odds with one of the readings that stay.
            if -low.found_number() != pair[0]:
                return misfits(book, low.found_history())
            if high.found_number() != pair[1]:
                return misfits(book, high.found_history())
    return None


def readings_that_see(book, amounts):
    """The names of the readings whose questions do not have the answer 0 for these amounts."""
    return [reading.name for reading in readings_of(book) if reading.question.at(amounts) != 0]


def folded(book):
    """The book in which each row of exact deeds is one, with the time and the name of the last of them."""
    kept = []
    row = []
    for entry in book.entries:
        if isinstance(entry, Exact):
            row.append(entry)
        else:
            kept.extend([*in_one(row), entry])
            row = []
    return Book(book.grid, [*kept, *in_one(row)])


def in_one(row):
    """A list of one exact deed that does what a row of them does; an empty list if that is nothing."""
    if len(row) == 0:
        return []
    last = row[-1]
    changes = list(last.changes)
    for deed in row[:-1]:
        changes = [one + other for one, other in zip(changes, deed.changes)]
    if all([change == 0 for change in changes]):
        return []
    return [Exact(last.time, last.name, last.grid, changes)]
