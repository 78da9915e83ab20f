"""The known change: what the deeds of a book are known to have added."""

from toldwithin.books import is_by
from toldwithin.entries import Exact, Reading, Rough
from toldwithin.ratios import Ratio


def no_change(book):
    return [Ratio(0)] * book.grid.size


def changed_by(entry, known):
    """The known change behind an entry, from the one ahead of it."""
    if isinstance(entry, Exact):
        return [one + more for one, more in zip(known, entry.changes)]
    if isinstance(entry, Rough):
        return with_more(known, entry.place, entry.amount)
    return known


def with_more(amounts, place, more):
    """Amounts with more at one place."""
    return [amount + more if at == place else amount for at, amount in enumerate(amounts)]


def known_up_to(book, at):
    """The known change up to a moment, for each cell."""
    known = no_change(book)
    for entry in book.entries:
        if is_by(entry, at):
            known = changed_by(entry, known)
    return known


def bare_values(book):
    """For the name of each reading: its value, less what its question answers at the known change."""
    known = no_change(book)
    found = {}
    for entry in book.entries:
        known = changed_by(entry, known)
        if isinstance(entry, Reading):
            found[entry.name] = entry.value - entry.question.at(known)
    return found
