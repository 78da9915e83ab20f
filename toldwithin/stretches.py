"""What the readings tell: between which two numbers an answer surely is."""

from toldwithin.books import check_moment, check_question, readings_of
from toldwithin.changes import known_up_to
from toldwithin.combinations import Combination, is_combination
from toldwithin.drifts import drift
from toldwithin.errors import Clash, Endless, NoNumber, NoSide, NoWeights
from toldwithin.frames import Frame, Search, Span, search_for_any, spans_of_readings, told_frame
from toldwithin.histories import answer_in, explains
from toldwithin.kinds import is_flag
from toldwithin.promises import copied
from toldwithin.questions import are_amounts
from toldwithin.ratios import Ratio, as_ratio, is_number
from toldwithin.rows import numbers_of, row_of


class End:
    """The low or the high of a stretch, with weights and a history that show it."""

    def __init__(self, number, weights, history):
        self.number = number
        self.weights = copied(weights)
        self.history = history

    def __eq__(self, other):
        if not isinstance(other, End) or self.number != other.number:
            return False
        return self.weights == other.weights and self.history == other.history


def stretch(book, question, *, at=None):
    """The least and the greatest answer of a question at a moment; None if it is endless."""
    check_question(book, question)
    check_moment(at)
    return stretch_in(told_frame(book), question, at)


def stretch_in(frame, question, at):
    """The stretch of a question at a moment of the book of a frame."""
    return moved(bare_stretch(frame, question, at), question.at(known_up_to(frame.source, at)))


def bare_stretch(frame, question, at):
    """The stretch at the bare amounts."""
    found = searches(frame, question, at)
    if found is None:
        return None
    low, high = found
    return -low.found_number(), high.found_number()


def moved(pair, number):
    """A stretch with a number added to both ends."""
    return None if pair is None else (pair[0] + number, pair[1] + number)


def searches(frame, question, at):
    """The searches for the highest answers of the opposite question and of a question; None if it is endless."""
    high = Search(frame, row_of(frame.source, question, at), {})
    if high.is_clash:
        raise Clash()
    if high.is_endless:
        return None
    return Search(frame, row_of(frame.source, -question, at), high.outcome.basis), high


def center_of(book, question, weights, *, at=None):
    """What the readings' values tell together, by a combination that makes the question."""
    check_question(book, question)
    check_moment(at)
    if not is_combination(readings_of(book), weights):
        raise NoWeights()
    combination = Combination(book, weights)
    if combination.price(question, at) is None:
        raise NoWeights()
    return combination.told_center(question, at)


def ends_of(book, question, *, at=None):
    """Both ends of a stretch with what shows them; None if the question is endless."""
    check_question(book, question)
    check_moment(at)
    found = searches(told_frame(book), question, at)
    if found is None:
        return None
    low, high = found
    known = question.at(known_up_to(book, at))
    opposite = low.found_weights()
    weights = {name: -opposite[name] for name in opposite}
    return (
        End(known - low.found_number(), weights, low.found_history()),
        End(known + high.found_number(), high.found_weights(), high.found_history()),
    )


def check_end(book, question, is_high, candidate, *, at=None):
    """Whether anything is the low, or the high, with what shows it."""
    check_question(book, question)
    if not is_flag(is_high):
        raise NoSide()
    check_moment(at)
    if not isinstance(candidate, End) or not is_number(candidate.number):
        return False
    if not is_combination(readings_of(book), candidate.weights) or not explains(book, candidate.history):
        return False
    combination = Combination(book, candidate.weights)
    price = combination.price(question, at)
    if price is None:
        return False
    reach = price if is_high else -price
    if combination.told_center(question, at) + reach != candidate.number:
        return False
    return answer_in(book, candidate.history, question, at) == candidate.number


def estimate(book, question, *, at=None):
    """The middle of the stretch."""
    found = stretch(book, question, at=at)
    if found is None:
        raise Endless()
    low, high = found
    return (low + high).over(2)


def history_with(book, question, number, *, at=None):
    """A history that explains the book and has this answer; None if there is none."""
    check_question(book, question)
    if not is_number(number):
        raise NoNumber()
    check_moment(at)
    bare = as_ratio(number) - question.at(known_up_to(book, at))
    found = searches(told_frame(book), question, at)
    if found is not None:
        low, high = found
        least, greatest = -low.found_number(), high.found_number()
        if bare <= least:
            return low.found_history() if bare == least else None
        if bare >= greatest:
            return high.found_history() if bare == greatest else None
    # The wanted answer is like one more reading without a slip.
    wanted = Span(None, numbers_of(book, question, at), bare, Ratio(0))
    return search_for_any(Frame(book, [*spans_of_readings(book), wanted])).found_history()


def frame_without_clash(book):
    """The frame of what is told by a book that some history explains; other books are refused."""
    frame = told_frame(book)
    if search_for_any(frame).is_clash:
        raise Clash()
    return frame


def drift_of(book, question):
    """Amounts that no reading sees and the question does; None if there are none."""
    check_question(book, question)
    frame_without_clash(book)
    return drift(readings_of(book), question)


def check_drift(book, question, candidate):
    """Whether anything is a tuple of such amounts."""
    check_question(book, question)
    if not isinstance(candidate, tuple) or not are_amounts(book.grid, candidate):
        return False
    answers = [reading.question.at(candidate) for reading in readings_of(book)]
    return all([answer == 0 for answer in answers]) and question.at(candidate) == 1


def some_history(book):
    """A history that explains the book."""
    search = search_for_any(told_frame(book))
    if search.is_clash:
        raise Clash()
    return search.found_history()
