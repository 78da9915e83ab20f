"""What any method can promise, whatever the looks will tell."""

from toldwithin.books import check_moment, check_question, looks_of, rough_deeds_of
from toldwithin.combinations import Combination, is_combination
from toldwithin.drifts import drift
from toldwithin.errors import NoWeights
from toldwithin.frames import Search, blind_frame
from toldwithin.histories import History, is_of, is_within
from toldwithin.ratios import is_number, is_reach
from toldwithin.rows import Held, extra_of, row_of


class Promise:
    """An error, and the weights of looks by which nobody is further off."""

    def __init__(self, error, weights):
        self.error = error
        self.weights = copied(weights)

    def __eq__(self, other):
        return isinstance(other, Promise) and self.error == other.error and self.weights == other.weights


class Doubt:
    """An error, and the history by which everybody may be so far off."""

    def __init__(self, error, history):
        self.error = error
        self.history = history

    def __eq__(self, other):
        return isinstance(other, Doubt) and self.error == other.error and self.history == other.history


def copied(weights):
    """A copy of a dict; anything else as it is."""
    return {name: weights[name] for name in weights} if isinstance(weights, dict) else weights


def least_error(book, question, *, at=None):
    """The least error that a method can have for a question at a moment; None if all are unbounded."""
    search = blind_search(book, question, at)
    return None if search.is_endless else search.found_number()


def blind_search(book, question, at):
    check_question(book, question)
    check_moment(at)
    return Search(blind_frame(book), row_of(book, question, at), {})


def price_of(book, question, weights, *, at=None):
    """The error of who adds up the looks' values with these weights."""
    check_question(book, question)
    check_moment(at)
    price = price_by(book, question, weights, at)
    if price is None:
        raise NoWeights()
    return price


def price_by(book, question, weights, at):
    """The price of anything for a question at a moment; None if it is no combination that makes the question."""
    if not is_combination(looks_of(book), weights):
        return None
    return Combination(book, weights).price(question, at)


def promise_of(book, question, *, at=None):
    """The least error with weights that have it; None if there is none."""
    search = blind_search(book, question, at)
    return None if search.is_endless else Promise(search.found_number(), search.found_weights())


def doubt_of(book, question, *, at=None):
    """The least error with a history that shows that no method has a lesser one."""
    search = blind_search(book, question, at)
    if search.is_endless:
        none = {deed.name: 0 for deed in rough_deeds_of(book)}
        return Doubt(None, History(drift(looks_of(book), question), none))
    return Doubt(search.found_number(), search.found_history())


def check_promise(book, question, candidate, *, at=None):
    """Whether anything is a promise that holds."""
    check_question(book, question)
    check_moment(at)
    if not isinstance(candidate, Promise) or not is_number(candidate.error):
        return False
    price = price_by(book, question, candidate.weights, at)
    return price is not None and price <= candidate.error


def check_doubt(book, question, candidate, *, at=None):
    """Whether anything is a doubt that holds."""
    check_question(book, question)
    check_moment(at)
    if not isinstance(candidate, Doubt) or not is_of(book, candidate.history):
        return False
    if candidate.error is None:
        return is_way_out(book, question, candidate.history, at)
    return is_reach(candidate.error) and does_reach(book, question, candidate, at)


def is_way_out(book, question, history, at):
    """Whether a history without extras changes the answer of a question by 1, and those of the looks not at all."""
    if not all([extra_of(history, deed) == 0 for deed in rough_deeds_of(book)]):
        return False
    held = Held(book, history)
    answers = [held.answer(row_of(book, look.question, look.time)) for look in looks_of(book)]
    return all([answer == 0 for answer in answers]) and held.answer(row_of(book, question, at)) == 1


def does_reach(book, question, doubt, at):
    """Whether the history of a doubt, hidden from all looks, changes the answer of a question by its error."""
    held = Held(book, doubt.history)
    return is_hidden(book, doubt.history, held) and held.answer(row_of(book, question, at)) == doubt.error


def is_hidden(book, history, held):
    """Whether the extras are within the bounds, and the answers of all looks differ from 0 by at most their slips."""
    if not all([is_within(extra_of(history, deed), deed.bound) for deed in rough_deeds_of(book)]):
        return False
    return all([is_hidden_from(book, look, look.time, held) for look in looks_of(book)])


def is_hidden_from(book, look, at, held):
    """Whether the answer of the question of a look, or of an offer, at a moment differs from 0 by at most its slip."""
    return held.is_answer_between(row_of(book, look.question, at), -look.slip, look.slip)
