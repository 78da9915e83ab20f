"""Clashes: readings that cannot all be right, and which of them may be wrong."""

from toldwithin.books import Book, readings_of
from toldwithin.choices import choices
from toldwithin.combinations import Combination, is_combination
from toldwithin.errors import Clash, NoCount
from toldwithin.frames import search_for_any, told_frame
from toldwithin.kinds import is_integer
from toldwithin.questions import nothing_of

MOST_EXCUSED = 3


def clash_of(book):
    """Weights of readings that show that no history explains the book; None if one does."""
    search = search_for_any(told_frame(book))
    return search.found_weights() if search.is_clash else None


def check_clash(book, candidate):
    """Whether anything is a clash of the book."""
    if not is_combination(readings_of(book), candidate):
        return False
    combination = Combination(book, candidate)
    nothing = nothing_of(book.grid)
    price = combination.price(nothing, None)
    return price is not None and abs(combination.told_center(nothing, None)) > price


def excuses(book, most):
    """The smallest sets of at most so many readings without which some history explains the book."""
    if not is_integer(most) or not 0 <= most <= MOST_EXCUSED:
        raise NoCount()
    names = ascending_readings(book)
    found = []
    clashes = []
    for many in range(most + 1):
        for chosen in choices(names, many):
            # What holds a known excuse is none.
            if not has_one_within(found, chosen) and is_free(book, chosen, clashes):
                found.append(chosen)
    return found


def is_free(book, left_out, clashes):
    """Whether some history explains the book without these readings; if none does, a clash among them shows it."""
    # A clash that is known already and is left whole saves the search.
    if has_one_beside(clashes, left_out):
        return False
    clash = clash_of(without_all(book, left_out))
    if clash is not None:
        clashes.append(clash)
    return clash is None


def ascending_readings(book):
    """The names of the readings, from the least one on."""
    return sorted([reading.name for reading in readings_of(book)], key=str)


def has_one_within(lots, names):
    """Whether all names of one of the lots are among these."""
    return any([all([name in names for name in lot]) for lot in lots])


def has_one_beside(lots, names):
    """Whether one of the lots has none of these names."""
    return any([not any([name in names for name in lot]) for lot in lots])


def without_all(book, names):
    """The book without the entries of these names."""
    return Book(book.grid, [entry for entry in book.entries if entry.name not in names])


def surely_wrong(book, most):
    """The names of the readings that are in all excuses of at most so many readings."""
    found = excuses(book, most)
    if len(found) == 0:
        raise Clash()
    return [name for name in ascending_readings(book) if all([name in excuse for excuse in found])]
