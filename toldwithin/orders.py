"""The changes that a desk can be told: each makes a new state of one."""

from toldwithin.branches import Conflict, merged
from toldwithin.entries import Exact, Planned, Reading, Rough
from toldwithin.errors import Conflicted, NoEntry, NoMeaning, NoName, TooMany
from toldwithin.forgetting import folded, trimmed
from toldwithin.kinds import is_name
from toldwithin.questions import Question
from toldwithin.states import Branch, State, meant_by, present_book, with_book, with_branch

MOST_BRANCHES = 6


def let_name(state, told):
    name, text = told
    meant = meant_by(state, text)
    if not is_name(name):
        raise NoEntry("name")
    return State(state.branches, state.present, {**state.meanings, name: meant})


def add_reading(state, told):
    time, name, value, slip, text = told
    return with_entry(state, Reading(time, name, question_by(state, text), value, slip))


def add_planned(state, told):
    time, name, slip, text = told
    return with_entry(state, Planned(time, name, question_by(state, text), slip))


def question_by(state, text):
    """The question that the text of an expression means."""
    meant = meant_by(state, text)
    if not isinstance(meant, Question):
        raise NoMeaning("kinds")
    return meant


def add_exact(state, told):
    time, name, changes = told
    return with_entry(state, Exact(time, name, present_book(state).grid, changes))


def add_rough(state, told):
    time, name, place, amount, bound = told
    return with_entry(state, Rough(time, name, present_book(state).grid, place, amount, bound))


def with_entry(state, entry):
    return with_book(state, present_book(state) + entry)


def drop_entry(state, told):
    return with_book(state, present_book(state).without(told[0]))


def add_branch(state, told):
    name = told[0]
    if not is_name(name) or name in state.branches:
        raise NoEntry("name")
    if len(state.branches) >= MOST_BRANCHES:
        raise TooMany(MOST_BRANCHES)
    return with_branch(state, name, Branch(present_book(state), present_book(state)))


def go_to(state, told):
    check_branch(state, told[0])
    return State(state.branches, told[0], state.meanings)


def check_branch(state, name):
    if name not in state.branches:
        raise NoName(name)


def merge_branch(state, told):
    """The state with a branch merged into the present one; what was merged is the branch's base from now on."""
    name = told[0]
    check_branch(state, name)
    branch = state.branches[name]
    found = merged(branch.base, present_book(state), branch.now)
    if isinstance(found, Conflict):
        raise Conflicted(found.kind, found.what)
    grown = with_book(state, found)
    now = grown.branches[name].now
    return with_branch(grown, name, Branch(now, now))


def fold_book(state, told):
    return with_book(state, folded(present_book(state)))


def trim_book(state, told):
    return with_book(state, trimmed(present_book(state)))


ORDERS = {
    "let": let_name, "read": add_reading, "plan": add_planned, "exact": add_exact, "rough": add_rough,
    "drop": drop_entry, "branch": add_branch, "go": go_to, "merge": merge_branch, "fold": fold_book, "trim": trim_book,
}


def state_behind(state, command, told):
    """The state that a change makes of one."""
    order = ORDERS[command]
    return order(state, told)
