"""Branches: two books that came from one, put together, and what to leave out if they do not agree."""

from toldwithin.books import Book, entry_named, least_twice, readings_of
from toldwithin.choices import choices
from toldwithin.clashes import ascending_readings, check_clash, clash_of, has_one_beside, is_free, without_all
from toldwithin.errors import OtherGrid, TooMany
from toldwithin.stretches import frame_without_clash

MOST_READINGS = 8


class Conflict:
    """Why two books do not go together: by a name, or by a time."""

    def __init__(self, kind, what):
        self.kind = kind
        self.what = what

    def __eq__(self, other):
        return isinstance(other, Conflict) and self.kind == other.kind and self.what == other.what


def merged(base, one, other):
    """The book with what was changed in both of two books that came from one, or their conflict."""
    check_grids(base, one, other)
    entries = []
    for name in names_in(base, one, other):
        before, left, right = [entry_named(book.entries, name) for book in (base, one, other)]
        if left != right and left != before and right != before:
            return Conflict("name", name)
        found = right if left == before else left
        if found is not None:
            entries.append(found)
    time = least_twice(sorted([entry.time for entry in entries], key=int))
    return Book(base.grid, entries) if time is None else Conflict("time", time)


def check_grids(base, one, other):
    """Refuses books of unequal grids."""
    if one.grid != base.grid or other.grid != base.grid:
        raise OtherGrid()


def names_in(base, one, other):
    """The names of all entries of three books, from the least one on."""
    found = {name: True for book in (base, one, other) for name in book.names()}
    return sorted(list(found), key=str)


def tangle(base, one, other):
    """The conflict of two books that each hold together, or a clash of both together, or None."""
    check_grids(base, one, other)
    frame_without_clash(one)
    frame_without_clash(other)
    found = merged(base, one, other)
    return found if isinstance(found, Conflict) else clash_of(found)


def cut(book):
    """The names of the fewest readings without which some history explains the book."""
    names, _ = cut_with_paper(book)
    return names


def cut_paper(book):
    """Clashes of which one is left whole wherever fewer readings are left out."""
    _, paper = cut_with_paper(book)
    return tuple(paper)


def cut_with_paper(book):
    check_few_readings(book)
    names = ascending_readings(book)
    # This ends: without all readings, any amounts at first explain the book.
    clashes = []
    for many in range(len(names) + 1):
        paper = list(clashes)
        for chosen in choices(names, many):
            if is_free(book, chosen, clashes):
                return chosen, paper


def check_few_readings(book):
    if len(readings_of(book)) > MOST_READINGS:
        raise TooMany(MOST_READINGS)


def check_cut(book, names, paper):
    """Whether anything is a lot of readings to leave out, with clashes that show that fewer are not enough."""
    check_few_readings(book)
    if not are_ascending_readings(book, names) or not isinstance(paper, tuple):
        return False
    if not all([check_clash(book, clash) for clash in paper]):
        return False
    return is_paper_for(book, len(names), paper) and clash_of(without_all(book, names)) is None


def are_ascending_readings(book, names):
    """Whether this is an ascending tuple of names of readings."""
    if not isinstance(names, tuple):
        return False
    return [name for name in ascending_readings(book) if name in names] == list(names)


def is_paper_for(book, many, paper):
    """Whether each lot of fewer readings leaves one of these clashes whole."""
    if many == 0:
        return True
    bearing = [[name for name in clash if clash[name] != 0] for clash in paper]
    # Whatever a lot leaves whole, each part of the lot leaves whole, too: the largest lots are enough.
    return all([has_one_beside(bearing, lot) for lot in choices(ascending_readings(book), many - 1)])
