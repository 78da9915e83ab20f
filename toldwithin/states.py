"""What a desk has: branches of a book, and names that were let. A state never changes; each change makes a new one."""

from toldwithin.books import Book
from toldwithin.meanings import meaning
from toldwithin.parsing import parse

FIRST_BRANCH = "main"


class Branch:
    """The book of now of a branch, and the book that it came from."""

    def __init__(self, now, base):
        self.now = now
        self.base = base


class State:
    """The branches by their names, the name of the present one, and what the names mean that were let."""

    def __init__(self, branches, present, meanings):
        self.branches = branches
        self.present = present
        self.meanings = meanings


def first_state(grid):
    return State({FIRST_BRANCH: Branch(Book(grid), Book(grid))}, FIRST_BRANCH, {})


def present_book(state):
    return state.branches[state.present].now


def with_branch(state, name, branch):
    """The state in which a branch of this name is as told."""
    return State({**state.branches, name: branch}, state.present, state.meanings)


def with_book(state, book):
    """The state with another present book."""
    return with_branch(state, state.present, Branch(book, state.branches[state.present].base))


def meant_by(state, text):
    """What the text of an expression means now."""
    return meaning(parse(text), present_book(state).grid, state.meanings)
