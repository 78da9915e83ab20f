"""Buying: readings that are offered, and the cheapest ones by which some goals are met."""

from toldwithin.books import Book
from toldwithin.choices import choices
from toldwithin.entries import Planned
from toldwithin.errors import NoChoice, NoGoal, NoGoals, NoOffer, NoOffers
from toldwithin.histories import History, is_of
from toldwithin.kinds import is_integer, is_name, is_sequence
from toldwithin.promises import doubt_of, is_hidden, is_hidden_from
from toldwithin.questions import Question
from toldwithin.ratios import as_ratio, is_reach
from toldwithin.rows import Held, row_of

MOST_OFFERS = 5
MOST_GOALS = 3


class Offer:
    """A reading that can be bought."""

    def __init__(self, name, question, slip, cost):
        if not is_name(name):
            raise NoOffer("name")
        if not isinstance(question, Question):
            raise NoOffer("question")
        if not is_reach(slip):
            raise NoOffer("slip")
        if not is_integer(cost) or cost < 0:
            raise NoOffer("cost")
        self.name = name
        self.question = question
        self.slip = as_ratio(slip)
        self.cost = cost

    def __eq__(self, other):
        if not isinstance(other, Offer) or self.name != other.name or self.cost != other.cost:
            return False
        return self.question == other.question and self.slip == other.slip


class Goal:
    """Asks for a least error of at most so much, behind all entries."""

    def __init__(self, question, error):
        if not isinstance(question, Question):
            raise NoGoal("question")
        if not is_reach(error):
            raise NoGoal("error")
        self.question = question
        self.error = as_ratio(error)

    def __eq__(self, other):
        return isinstance(other, Goal) and self.question == other.question and self.error == other.error


def bought(book, offers, names):
    """The book with a planned reading for each of the chosen offers, behind all entries."""
    check_offers(book, offers)
    if not are_chosen(offers, names):
        raise NoChoice()
    check_room(book, offers)
    return with_bought(book, offers, names)


def check_offers(book, offers):
    """Refuses what is no sequence of some offers that the book can take up."""
    if not is_sequence(offers) or not 1 <= len(offers) <= MOST_OFFERS:
        raise NoOffers(-1)
    taken = book.names()
    for place, offer in enumerate(offers):
        if not isinstance(offer, Offer) or offer.question.grid != book.grid or offer.name in taken:
            raise NoOffers(place)
        taken.append(offer.name)


def check_goals(book, goals):
    """Refuses what is no sequence of some goals for the book's grid."""
    if not is_sequence(goals) or not 1 <= len(goals) <= MOST_GOALS:
        raise NoGoals(-1)
    for place, goal in enumerate(goals):
        if not isinstance(goal, Goal) or goal.question.grid != book.grid:
            raise NoGoals(place)


def check_room(book, offers):
    """Refuses offers that the book could not take up all together."""
    with_bought(book, offers, names_of(offers))


def check_all(book, offers, goals):
    check_offers(book, offers)
    check_goals(book, goals)
    check_room(book, offers)


def names_of(offers):
    """The names of offers, from the least one on."""
    return sorted([offer.name for offer in offers], key=str)


def are_chosen(offers, names):
    """Whether this is a sequence of names of offers, none of them twice."""
    if not is_sequence(names) or not all([isinstance(name, str) for name in names]):
        return False
    known = names_of(offers)
    return all([name in known for name in names]) and len(set(names)) == len(names)


def with_bought(book, offers, names):
    last = book.last()
    first = 0 if last is None else last + 1
    chosen = {offer.name: offer for offer in offers if offer.name in names}
    plans = [
        Planned(first + place, name, chosen[name].question, chosen[name].slip)
        for place, name in enumerate(sorted(list(chosen), key=str))
    ]
    return Book(book.grid, [*book.entries, *plans])


def in_their_order(offers):
    """The pairs (cost, choice) of all choices, each one behind those that are ahead of it."""
    names = names_of(offers)
    by_cost = {}
    for many in range(len(names) + 1):
        for choice in choices(names, many):
            cost = sum([offer.cost for offer in offers if offer.name in choice])
            by_cost.setdefault(cost, []).append(choice)
    return [(total, lot) for total in sorted(list(by_cost), key=int) for lot in by_cost[total]]


def shortfall(book, goals):
    """The place of a goal that is not met, and a history that shows it; None if all goals are met."""
    for place, goal in enumerate(goals):
        doubt = doubt_of(book, goal.question)
        if doubt.error is None:
            return place, multiplied(doubt.history, goal.error + 1)
        if doubt.error > goal.error:
            return place, doubt.history
    return None


def multiplied(history, factor):
    """A history without extras, with each amount times a factor."""
    return History([amount * factor for amount in history.first], history.extras)


class Refuter:
    """The place of a goal with a history, and which choices they refute."""

    def __init__(self, book, offers, goals, pair):
        place, history = pair
        held = Held(book, history)
        goal = goals[place]
        self.pair = pair
        self.is_at_work = is_hidden(book, history, held) and held.answer(row_of(book, goal.question, None)) > goal.error
        self.hiding = [offer.name for offer in offers if is_hidden_from(book, offer, None, held)]

    def does_refute(self, choice):
        return self.is_at_work and all([name in self.hiding for name in choice])


def is_refuted(refuters, choice):
    return any([refuter.does_refute(choice) for refuter in refuters])


def searched(book, offers, goals):
    """The cheapest choice with its cost, or None, and refuters of all choices ahead."""
    check_all(book, offers, goals)
    refuters = []
    for cost, choice in in_their_order(offers):
        if not is_refuted(refuters, choice):
            pair = shortfall(with_bought(book, offers, choice), goals)
            if pair is None:
                return (cost, choice), refuters
            refuters.append(Refuter(book, offers, goals, pair))
    return None, refuters


def cheapest(book, offers, goals):
    """The cheapest choice by which all goals are met, with its cost; None if there is none."""
    answer, _ = searched(book, offers, goals)
    return answer


def evidence(book, offers, goals):
    """Pairs (place of a goal, history) that refute each choice ahead of the cheapest one."""
    _, refuters = searched(book, offers, goals)
    return tuple([refuter.pair for refuter in refuters])


def check_cheapest(book, offers, goals, answer, found):
    """Whether anything is the answer of cheapest, with evidence for it."""
    check_all(book, offers, goals)
    if not is_like_answer(answer) or not are_like_evidence(book, goals, found):
        return False
    refuters = [Refuter(book, offers, goals, pair) for pair in found]
    for cost, choice in in_their_order(offers):
        if (cost, choice) == answer:
            return shortfall(with_bought(book, offers, choice), goals) is None
        if not is_refuted(refuters, choice):
            return False
    return answer is None


def is_like_answer(answer):
    """Whether this is None, or a pair of an integer and a tuple of strings."""
    if answer is None:
        return True
    if not isinstance(answer, tuple) or len(answer) != 2:
        return False
    cost, choice = answer
    return is_integer(cost) and isinstance(choice, tuple) and all([isinstance(name, str) for name in choice])


def are_like_evidence(book, goals, found):
    """Whether this is a tuple of pairs of the place of a goal and a history of the book's grid."""
    return isinstance(found, tuple) and all([is_like_pair(book, goals, pair) for pair in found])


def is_like_pair(book, goals, found):
    if not isinstance(found, tuple) or len(found) != 2:
        return False
    place, history = found
    return is_integer(place) and 0 <= place < len(goals) and is_of(book, history)
