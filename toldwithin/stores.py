"""Stores: a book that changes, and questions whose stretches are kept up to date."""

from toldwithin.books import check_moment, check_question
from toldwithin.errors import NoBook, NoName, NoUndo, TooMany
from toldwithin.kinds import is_name, is_sequence
from toldwithin.stretches import frame_without_clash, stretch_in

MOST_LABELS = 12


class Kept:
    """A question for a moment, and its stretch in some book."""

    def __init__(self, frame, question, moment):
        self.question = question
        self.moment = moment
        self.pair = stretch_in(frame, question, moment)


class Page:
    """A book that some history explains, and what is kept under each label; it never changes."""

    def __init__(self, frame, kept):
        self.frame = frame
        self.kept = kept


def page_of(book, kept):
    """The page of a book, with questions that were kept in another one."""
    frame = frame_without_clash(book)
    return Page(frame, {label: Kept(frame, one.question, one.moment) for label, one in kept.items()})


def page_with(page, entry):
    """The page of the book with one entry more."""
    return page_of(page.frame.source + entry, page.kept)


class Store:
    """A book of now, and stretches of it under labels; each change can be undone."""

    def __init__(self, book):
        self.past = []
        self.page = page_of(book, {})

    @property
    def book(self):
        return self.page.frame.source

    def keep(self, label, question, *, at=None):
        """Keeps a question for a moment under a label, and returns its stretch."""
        page = self.page
        if not is_name(label):
            raise NoName(label)
        check_question(page.frame.source, question)
        check_moment(at)
        others = without_label(page.kept, label)
        if len(others) >= MOST_LABELS:
            raise TooMany(MOST_LABELS)
        kept = Kept(page.frame, question, at)
        self.turn_to(Page(page.frame, {**others, label: kept}))
        return kept.pair

    def answer(self, label):
        """The stretch of what is kept under a label, in the book of now."""
        return self.kept_under(label).pair

    def forget(self, label):
        """Takes a label out."""
        self.kept_under(label)
        self.turn_to(Page(self.page.frame, without_label(self.page.kept, label)))

    def kept_under(self, label):
        if not isinstance(label, str) or label not in self.page.kept:
            raise NoName(label)
        return self.page.kept[label]

    def labels(self):
        """The labels that are in use, from the least one on."""
        return sorted(list(self.page.kept), key=str)

    def add(self, entry):
        """Adds an entry, and tells for each label what became of its stretch."""
        return self.turn_to(page_with(self.page, entry))

    def drop(self, name):
        """Leaves an entry out, and tells for each label what became of its stretch."""
        return self.turn_to(page_of(self.book.without(name), self.page.kept))

    def would(self, entry):
        """What `add` would tell; nothing changes."""
        return words_between(self.page, page_with(self.page, entry))

    def trial(self, entries):
        """What `add` would tell for one entry behind the other; nothing changes."""
        if not is_sequence(entries):
            raise NoBook("entries")
        page = self.page
        told = []
        for entry in entries:
            longer = page_with(page, entry)
            told.append(words_between(page, longer))
            page = longer
        return told

    def back(self):
        """Undoes the last change that is not undone yet."""
        if len(self.past) == 0:
            raise NoUndo()
        self.page = self.past.pop()

    def many(self):
        """The number of changes that can be undone."""
        return len(self.past)

    def turn_to(self, page):
        """Makes a page the one of now, and tells what became of the stretches."""
        words = words_between(self.page, page)
        self.past.append(self.page)
        self.page = page
        return words


def without_label(kept, label):
    return {other: kept[other] for other in kept if other != label}


def words_between(old, new):
    """For each label of two pages, the word for what became of its stretch."""
    return {label: word_for(old.kept[label].pair, new.kept[label].pair) for label in new.kept if label in old.kept}


def word_for(old, new):
    """The word for an old and a new stretch."""
    if old == new:
        return "same"
    if is_moved(old, new):
        return "moved"
    if is_within_other(new, old):
        return "narrower"
    if is_within_other(old, new):
        return "wider"
    return "other"


def is_moved(old, new):
    """Whether both ends are greater by the same number."""
    return old is not None and new is not None and new[0] - old[0] == new[1] - old[1]


def is_within_other(inner, outer):
    """Whether a stretch is a part of another one; an endless one holds all others."""
    if inner is None or outer is None:
        return outer is None
    return outer[0] <= inner[0] and inner[1] <= outer[1]
