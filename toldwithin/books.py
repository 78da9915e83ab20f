"""Books: entries in the order of their times."""

from toldwithin.entries import Reading, Rough, is_entry, is_look
from toldwithin.errors import NoBook, NoName, NoTime, OtherGrid, SameName, SameTime, TooMany
from toldwithin.grids import Grid
from toldwithin.kinds import is_integer, is_sequence

MOST_ENTRIES = 30
MOST_LOOKS = 10
MOST_ROUGH_DEEDS = 4


class Book:
    """Entries of one grid, by their times; it never changes."""

    def __init__(self, grid, entries=()):
        if not isinstance(grid, Grid):
            raise NoBook("grid")
        if not is_sequence(entries) or not all([is_entry(entry) for entry in entries]):
            raise NoBook("entries")
        if not all([entry.grid == grid for entry in entries]):
            raise OtherGrid()
        check_unlike(entries)
        check_many(entries)
        self.grid = grid
        self.entries = by_time(entries)

    def __eq__(self, other):
        return isinstance(other, Book) and self.grid == other.grid and self.entries == other.entries

    def __len__(self):
        return len(self.entries)

    def __iter__(self):
        return iter(self.entries)

    def __contains__(self, name):
        return entry_named(self.entries, name) is not None

    def __getitem__(self, name):
        found = entry_named(self.entries, name)
        if found is None:
            raise NoName(name)
        return found

    def __add__(self, other):
        # Not by the method: for an operator a call of that name counts as a change.
        return longer(self, other)

    def add(self, entry):
        """The book with one entry more."""
        return longer(self, entry)

    def without(self, name):
        """The book without the entry of this name."""
        left_out = self[name].name
        return Book(self.grid, [entry for entry in self.entries if entry.name != left_out])

    def upto(self, time):
        """The book of the entries whose time is at most this one."""
        if not is_integer(time):
            raise NoTime()
        return Book(self.grid, [entry for entry in self.entries if entry.time <= time])

    def names(self):
        """The names of the entries, in the order of their times."""
        return [entry.name for entry in self.entries]

    def last(self):
        """The greatest time, or None without entries."""
        return self.entries[-1].time if len(self.entries) > 0 else None


def longer(book, entry):
    """The book with one entry more."""
    return Book(book.grid, [*book.entries, entry])


def check_unlike(entries):
    """Refuses two entries of one time, then two of one name."""
    time = least_twice(sorted([entry.time for entry in entries], key=int))
    if time is not None:
        raise SameTime(time)
    name = least_twice(sorted([entry.name for entry in entries], key=str))
    if name is not None:
        raise SameName(name)


def least_twice(ascending):
    """The first value that stands twice in an ascending list, or None."""
    for place in range(1, len(ascending)):
        if ascending[place] == ascending[place - 1]:
            return ascending[place]
    return None


def check_many(entries):
    if len(entries) > MOST_ENTRIES:
        raise TooMany(MOST_ENTRIES)
    if len([entry for entry in entries if is_look(entry)]) > MOST_LOOKS:
        raise TooMany(MOST_LOOKS)
    if len([entry for entry in entries if isinstance(entry, Rough)]) > MOST_ROUGH_DEEDS:
        raise TooMany(MOST_ROUGH_DEEDS)


def by_time(entries):
    """The entries, whose times are unlike, in the order of their times."""
    entry_at = {entry.time: entry for entry in entries}
    return tuple([entry_at[time] for time in sorted(list(entry_at), key=int)])


def entry_named(entries, name):
    """The entry of this name, or None if there is none; the name may be anything."""
    if not isinstance(name, str):
        return None
    for entry in entries:
        if entry.name == name:
            return entry
    return None


def looks_of(book):
    return [entry for entry in book.entries if is_look(entry)]


def readings_of(book):
    return [entry for entry in book.entries if isinstance(entry, Reading)]


def rough_deeds_of(book):
    return [entry for entry in book.entries if isinstance(entry, Rough)]


def check_question(book, question):
    """Refuses a question of another grid."""
    if question.grid != book.grid:
        raise OtherGrid()


def check_moment(at):
    """Refuses what is neither a time nor None, the moment behind all entries."""
    if at is not None and not is_integer(at):
        raise NoTime()


def is_by(entry, at):
    """Whether an entry is ahead of the moment of a time."""
    return at is None or entry.time <= at
