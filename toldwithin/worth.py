"""What a look is worth: what the others could do without it."""

from toldwithin.entries import is_look
from toldwithin.errors import NoName
from toldwithin.promises import least_error


def useless(book, name):
    """Whether leaving a look out changes no least error of any question at any moment."""
    look = look_named(book, name)
    # A look whose own answer the others tell as well as it does can be put in their terms wherever it is used.
    least = least_error(book.without(name), look.question, at=look.time)
    return least is not None and least <= look.slip


def look_named(book, name):
    if name not in book or not is_look(book[name]):
        raise NoName(name)
    return book[name]


def gain(book, name, question, *, at=None):
    """The least errors of a question at a moment without a look, and with it."""
    look_named(book, name)
    return least_error(book.without(name), question, at=at), least_error(book, question, at=at)
