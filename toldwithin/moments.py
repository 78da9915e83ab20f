"""Moments: what was known then, what is known now of then, and what came between."""

from toldwithin.books import Book, check_question, is_by, rough_deeds_of
from toldwithin.changes import changed_by, known_up_to, no_change
from toldwithin.entries import Reading, Rough
from toldwithin.errors import NoName, NoTime
from toldwithin.frames import told_frame
from toldwithin.kinds import is_integer
from toldwithin.stretches import bare_stretch, moved, stretch
from toldwithin.sums import sum_of_products


def known_then(book, question, time):
    """The stretch of a question at the moment of a time by the entries up to it."""
    check_question(book, question)
    return stretch(book.upto(time), question, at=time)


def check_times(*times):
    if not all([is_integer(time) for time in times]):
        raise NoTime()


def course_of(book, question):
    """For the time of each entry: the stretch of a question there, as it was known then, and as it is now."""
    check_question(book, question)
    frame = told_frame(book)
    known = no_change(book)
    then_by, now_by, course = {}, {}, []
    for place, entry in enumerate(book.entries):
        known = changed_by(entry, known)
        so_far = book.entries[:place + 1]
        # Exact deeds and planned readings leave the bare amounts, and what is known of them, as they are.
        bearing = len([other for other in so_far if isinstance(other, (Reading, Rough))])
        if bearing not in then_by:
            then_by[bearing] = bare_stretch(told_frame(Book(book.grid, so_far)), question, None)
        rough = len([other for other in so_far if isinstance(other, Rough)])
        if rough not in now_by:
            now_by[rough] = bare_stretch(frame, question, entry.time)
        answer = question.at(known)
        course.append((entry.time, moved(then_by[bearing], answer), moved(now_by[rough], answer)))
    return course


def news_of(book, name):
    """The stretch of a reading's question without the reading, and with it; later entries do not count."""
    if name not in book or not isinstance(book[name], Reading):
        raise NoName(name)
    reading = book[name]
    earlier = Book(book.grid, [entry for entry in book.entries if entry.time < reading.time])
    return stretch(earlier, reading.question), stretch(earlier.add(reading), reading.question)


def known_change(book, one, other):
    """The known change up to the moment of the other time, less that up to the one."""
    check_times(one, other)
    return tuple([later - sooner for sooner, later in zip(known_up_to(book, one), known_up_to(book, other))])


def roughness(book, question, one, other):
    """By how much the rough deeds between two moments blur a question's answer."""
    check_question(book, question)
    check_times(one, other)
    deeds = [deed for deed in rough_deeds_of(book) if is_by(deed, one) != is_by(deed, other)]
    return sum_of_products([deed.bound for deed in deeds], [abs(question.weights[deed.place]) for deed in deeds])
