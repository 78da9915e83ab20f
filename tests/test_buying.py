"""What can be bought: [34], [35], [36]."""

import unittest
from itertools import combinations

from tests import reckoning
from tests.makers import Maker
from tests.others import (
    BOOLS, anything, names, not_integers, not_names, not_numbers, not_sequences, own_things, plain_things,
)
from toldwithin.books import Book
from toldwithin.buying import Goal, Offer, bought, cheapest, check_cheapest, evidence
from toldwithin.entries import Exact, Planned, Reading, Rough
from toldwithin.errors import NoChoice, NoGoal, NoGoals, NoOffer, NoOffers, TooMany
from toldwithin.grids import Grid
from toldwithin.histories import History
from toldwithin.promises import Promise
from toldwithin.questions import Question, nothing_of
from toldwithin.ratios import Ratio

GRID = Grid([("kind", ["red", "blue"])])
RED, BLUE = Question(GRID, (1, 0)), Question(GRID, (0, 1))
NOTHING = nothing_of(GRID)
FAR_GRID = Grid([("kind", ["red", "green"])])
FAR = Question(FAR_GRID, (1, 0))
TINY = Ratio(1, 10 ** 60)
BOOK = Book(GRID, [Planned(1, "all", RED + BLUE, 1)])
OFFERS = [Offer("eye", RED, 2, 5), Offer("ear", RED, 4, 3), Offer("both", RED - BLUE, 1, 6)]


def not_questions():
    return [thing for thing in [*anything(), "red"] if not isinstance(thing, Question)]


def small_sale(seed):
    """A book with offers and goals, some of which can be met."""
    maker = Maker(seed)
    book = maker.small_book()
    offers = []
    for at in range(maker.dice.randint(1, 4)):
        offers.append(Offer("o" + str(at), maker.question(book.grid), maker.reach(2), maker.dice.choice([0, 1, 1, 2, 3])))
    maker.dice.shuffle(offers)
    goals = []
    for _ in range(maker.dice.randint(1, 2)):
        question = maker.question(book.grid)
        if maker.dice.random() < 0.6:
            question = offers[0].question * maker.number(2) + offers[-1].question
        goals.append(Goal(question, abs(maker.number(4))))
    return book, offers, goals


SALES = [small_sale(seed) for seed in range(120)]


def choices_in_order(offers):
    """All pairs (cost, choice), those ahead first."""
    known = {offer.name: offer.cost for offer in offers}
    lots = [lot for many in range(len(offers) + 1) for lot in combinations(sorted(known), many)]
    return sorted([(sum(known[name] for name in lot), lot) for lot in lots], key=lambda pair: (pair[0], len(pair[1]), pair[1]))


def is_good(book, offers, goals, choice):
    for goal in goals:
        least = reckoning.least_error(bought(book, offers, choice), goal.question, None)
        if least is None or least > reckoning.fraction(goal.error):
            return False
    return True


def answer_of(book, offers, goals):
    for pair in choices_in_order(offers):
        if is_good(book, offers, goals, pair[1]):
            return pair
    return None


def is_refuted(book, offers, goals, choice, pair):
    """By the words of [36]."""
    place, history = pair
    for deed in reckoning.entries_of(book, Rough):
        if abs(reckoning.extra_of(history, deed)) > reckoning.fraction(deed.bound):
            return False
    for look in reckoning.entries_of(book, Reading, Planned):
        found = reckoning.answer(look.question, reckoning.bare_amounts(book, history, look.time))
        if abs(found) > reckoning.fraction(look.slip):
            return False
    behind = reckoning.bare_amounts(book, history, None)
    for offer in offers:
        if offer.name in choice and abs(reckoning.answer(offer.question, behind)) > reckoning.fraction(offer.slip):
            return False
    return reckoning.answer(goals[place].question, behind) > reckoning.fraction(goals[place].error)


def other_things(kind):
    """Values that are no objects of a class."""
    return [thing for thing in [*plain_things(), *own_things(), *BOOLS, 1, "eye", [OFFERS[0]]] if not isinstance(thing, kind)]


class OfferTest(unittest.TestCase):
    def assertWrong(self, error, word, made):
        with self.assertRaises(error) as caught:
            made()
        self.assertEqual(caught.exception.word, word)

    def test_fields(self):
        offer = Offer("eye", RED, 2, 5)
        self.assertEqual((offer.name, offer.question, offer.slip, offer.cost), ("eye", RED, 2, 5))
        self.assertIs(type(offer.slip), Ratio)
        self.assertIs(type(offer.cost), int)
        for name in names():
            self.assertEqual(Offer(name, RED, Ratio(1, 3), 10 ** 40).name, name)
        self.assertEqual([Offer("a", RED, 0, 0).slip, Offer("a", RED, 0, 0).cost], [0, 0])
        goal = Goal(BLUE, Ratio(1, 2))
        self.assertEqual((goal.question, goal.error), (BLUE, Ratio(1, 2)))
        self.assertIs(type(Goal(BLUE, 0).error), Ratio)

    def test_each_parameter_wrong(self):
        for other in not_names():
            self.assertWrong(NoOffer, "name", lambda: Offer(other, RED, 1, 1))
        for other in not_questions():
            self.assertWrong(NoOffer, "question", lambda: Offer("a", other, 1, 1))
            self.assertWrong(NoGoal, "question", lambda: Goal(other, 1))
        for other in [*not_numbers(), -1, -TINY]:
            self.assertWrong(NoOffer, "slip", lambda: Offer("a", RED, other, 1))
            self.assertWrong(NoGoal, "error", lambda: Goal(RED, other))
        for other in [*not_integers(), -1, Ratio(2)]:
            self.assertWrong(NoOffer, "cost", lambda: Offer("a", RED, 1, other))

    def test_two_wrong_at_once(self):
        self.assertWrong(NoOffer, "name", lambda: Offer("A", 1, -1, -1))
        self.assertWrong(NoOffer, "question", lambda: Offer("a", 1, -1, -1))
        self.assertWrong(NoOffer, "slip", lambda: Offer("a", RED, -1, -1))
        self.assertWrong(NoOffer, "slip", lambda: Offer("a", RED, True, True))
        self.assertWrong(NoOffer, "name", lambda: Offer("sum", RED, 1, True))
        self.assertWrong(NoGoal, "question", lambda: Goal("a", -1))

    def test_equality(self):
        one = Offer("a", RED, 7, 2)
        self.assertEqual(one, Offer("a", Question(GRID, [Ratio(1), 0]), Ratio(7), 2))
        for other in (Offer("b", RED, 7, 2), Offer("a", BLUE, 7, 2), Offer("a", RED, 2, 2), Offer("a", RED, 7, 3),
                      Offer("a", FAR, 7, 2)):
            self.assertTrue(one != other)
            self.assertFalse(one == other)
        goal = Goal(RED, 7)
        self.assertEqual(goal, Goal(RED * 1, Ratio(7)))
        for other in (Goal(BLUE, 7), Goal(RED, 2), Goal(FAR, 7)):
            self.assertTrue(goal != other)
        for other in anything():
            self.assertFalse(one == other)
            self.assertFalse(goal == other)
            self.assertTrue(one != other and goal != other)
        self.assertFalse(one == goal)


class BoughtTest(unittest.TestCase):
    def assertBought(self, book, chosen, *wanted):
        found = bought(book, OFFERS, chosen)
        self.assertEqual(found, Book(book.grid, [*book.entries, *wanted]))

    def test_names_in_any_order(self):
        both = [Planned(2, "both", RED - BLUE, 1), Planned(3, "eye", RED, 2)]
        for chosen in (["both", "eye"], ["eye", "both"], ("eye", "both"), ("both", "eye")):
            self.assertBought(BOOK, chosen, *both)
        self.assertBought(BOOK, ["ear"], Planned(2, "ear", RED, 4))
        self.assertBought(BOOK, [])
        self.assertBought(BOOK, ())
        every = [Planned(2, "both", RED - BLUE, 1), Planned(3, "ear", RED, 4), Planned(4, "eye", RED, 2)]
        self.assertBought(BOOK, ["eye", "ear", "both"], *every)
        self.assertEqual(bought(BOOK, tuple(OFFERS), ["ear"]), bought(BOOK, OFFERS, ("ear",)))
        self.assertEqual(BOOK.names(), ["all"])

    def test_times(self):
        self.assertBought(Book(GRID), ["eye", "ear"], Planned(0, "ear", RED, 4), Planned(1, "eye", RED, 2))
        late = Book(GRID, [Exact(10 ** 50, "buy", GRID, (1, 1)), Planned(3, "p", RED, 1)])
        self.assertBought(late, ["eye"], Planned(10 ** 50 + 1, "eye", RED, 2))
        early = Book(GRID, [Reading(-7, "x", RED, 1, 1), Rough(-3, "leak", GRID, 0, 0, 1)])
        self.assertBought(early, ["eye", "ear"], Planned(-2, "ear", RED, 4), Planned(-1, "eye", RED, 2))
        zero = Book(GRID, [Reading(-1, "x", RED, 1, 1)])
        self.assertBought(zero, ["eye", "ear"], Planned(0, "ear", RED, 4), Planned(1, "eye", RED, 2))

    def assertNoOffers(self, place, book, offers):
        for call in (lambda: bought(book, offers, "x"), lambda: cheapest(book, offers, "x"),
                     lambda: evidence(book, offers, "x"), lambda: check_cheapest(book, offers, "x", None, ())):
            with self.assertRaises(NoOffers) as caught:
                call()
            self.assertEqual(caught.exception.place, place)

    def test_what_are_no_offers(self):
        six = [Offer("o" + str(at), RED, 1, 1) for at in range(6)]
        for other in [*not_sequences(), [], (), six, tuple(six), [1] * 6]:
            self.assertNoOffers(-1, BOOK, other)
        self.assertEqual(len(bought(BOOK, six[:5], [])), 1)
        for other in other_things(Offer):
            self.assertNoOffers(0, BOOK, [other])
            self.assertNoOffers(1, BOOK, (OFFERS[0], other, other))
        self.assertNoOffers(0, BOOK, [Offer("eye", FAR, 1, 1), 5])
        self.assertNoOffers(1, BOOK, [OFFERS[0], Offer("all", RED, 1, 1)])
        self.assertNoOffers(2, BOOK, [*OFFERS[:2], Offer("eye", BLUE, 9, 9)])
        self.assertNoOffers(2, BOOK, [*OFFERS[:2], OFFERS[0], OFFERS[0]])
        self.assertNoOffers(0, BOOK.add(Exact(7, "eye", GRID, (0, 0))), OFFERS)

    def test_what_is_no_choice(self):
        for other in [*not_sequences(), ["eye", "eye"], ("eye", "ear", "eye"), ["all"], ["eye", "x"], ["Eye"], [""],
                      [1], [None], [["eye"]], [b"eye"], [OFFERS[0]], [{}], ["eye", True], [Ratio(1)]]:
            with self.subTest(repr(other)):
                with self.assertRaises(NoChoice):
                    bought(BOOK, OFFERS, other)

    def test_room_for_all_offers(self):
        entries = [Exact(at, "e" + str(at), GRID, (0, 0)) for at in range(27)]
        looks = [Planned(at, "p" + str(at), RED, 1) for at in range(50, 57)]
        goals = [Goal(RED, 10 ** 9)]
        self.assertEqual(len(bought(Book(GRID, entries), OFFERS, [])), 27)
        self.assertEqual(len(bought(Book(GRID, entries), OFFERS, ["eye", "ear", "both"])), 30)
        self.assertEqual(len(bought(Book(GRID, looks), OFFERS, ["ear", "eye", "both"])), 10)
        self.assertEqual(cheapest(Book(GRID, looks), OFFERS, goals), (0, ()))
        fuller = Book(GRID, [*entries, Exact(30, "e30", GRID, (0, 0))])
        both = Book(GRID, [*entries[:20], *looks, Planned(60, "p60", RED, 1)])
        for book, most in [(fuller, 30), (Book(GRID, [*looks, Planned(60, "p60", RED, 1)]), 10), (both, 30)]:
            for call in (lambda: bought(book, OFFERS, []), lambda: bought(book, OFFERS, ["eye", "ear", "both"]),
                         lambda: cheapest(book, OFFERS, goals), lambda: evidence(book, OFFERS, goals),
                         lambda: check_cheapest(book, OFFERS, goals, (0, ()), ())):
                with self.assertRaises(TooMany) as caught:
                    call()
                self.assertEqual(caught.exception.most, most)
            with self.assertRaises(NoChoice):
                bought(book, OFFERS, ["x"])
            with self.assertRaises(NoGoals):
                cheapest(book, OFFERS, [])
            self.assertNoOffers(-1, book, [])

    def test_what_is_done_to_the_arguments(self):
        offers, chosen = list(OFFERS), ["eye", "both"]
        bought(BOOK, offers, chosen)
        cheapest(BOOK, offers, [Goal(BLUE, 1)])
        self.assertEqual((offers, chosen), (OFFERS, ["eye", "both"]))


class CheapestTest(unittest.TestCase):
    def assertCheapest(self, book, offers, goals, wanted):
        found = cheapest(book, offers, goals)
        self.assertEqual(found, wanted)
        if found is not None:
            self.assertEqual((type(found), type(found[0]), type(found[1])), (tuple, int, tuple))
        told = evidence(book, offers, goals)
        self.assertIs(type(told), tuple)
        self.assertLessEqual(len(told), 32)
        self.assertIs(check_cheapest(book, offers, goals, found, told), True)
        for pair in told:
            self.assertEqual((type(pair), type(pair[0]), type(pair[1])), (tuple, int, History))
            self.assertEqual(len(pair[1].first), book.grid.size)
        for cost, choice in choices_in_order(offers):
            if (cost, choice) == found:
                break
            self.assertTrue(any(is_refuted(book, offers, goals, choice, pair) for pair in told))
        if found == (0, ()):
            self.assertEqual(told, ())

    def test_by_hand(self):
        for error, wanted in [(5, (3, ("ear",))), (Ratio(5) - TINY, (5, ("eye",))), (3, (5, ("eye",))),
                              (Ratio(3) - TINY, (6, ("both",))), (1, (6, ("both",))), (Ratio(1) - TINY, None), (0, None)]:
            self.assertCheapest(BOOK, OFFERS, [Goal(BLUE, error)], wanted)
            self.assertCheapest(BOOK, tuple(reversed(OFFERS)), (Goal(BLUE, error),), wanted)

    def test_several_goals(self):
        self.assertCheapest(BOOK, OFFERS, [Goal(BLUE, 5), Goal(RED, 2)], (5, ("eye",)))
        self.assertCheapest(BOOK, OFFERS, [Goal(BLUE, 5), Goal(RED, 2), Goal(RED - BLUE, 1)], (6, ("both",)))
        self.assertCheapest(BOOK, OFFERS, [Goal(RED + BLUE, 1), Goal(RED, 9), Goal(RED, 0)], None)

    def test_goals_that_hold_without_offers(self):
        for goals in ([Goal(RED + BLUE, 1)], [Goal(NOTHING, 0)], [Goal(RED * 0, 0), Goal(RED + BLUE, 7)]):
            self.assertCheapest(BOOK, OFFERS, goals, (0, ()))
            free = [Offer("a", RED, 0, 0), Offer("b", BLUE, 0, 0)]
            self.assertCheapest(BOOK, free, goals, (0, ()))
        self.assertCheapest(Book(GRID), OFFERS, [Goal(NOTHING, 0)], (0, ()))

    def test_equal_costs(self):
        def offers(*told):
            return [Offer(name, question, 1, cost) for name, question, cost in told]

        same = offers(("c", RED, 2), ("b", RED, 2), ("a", BLUE, 2))
        self.assertCheapest(Book(GRID), same, [Goal(RED, 1)], (2, ("b",)))
        self.assertCheapest(Book(GRID), same, [Goal(RED + BLUE, 2)], (4, ("a", "b")))
        # One name goes ahead of two that are less as a tuple.
        fewer = offers(("a", RED, 1), ("b", BLUE, 1), ("z", RED + BLUE, 2))
        self.assertCheapest(Book(GRID), fewer, [Goal(RED + BLUE, 2)], (2, ("z",)))
        dearer = offers(("a", RED, 1), ("b", BLUE, 1), ("z", RED + BLUE, 3))
        self.assertCheapest(Book(GRID), dearer, [Goal(RED + BLUE, 2)], (2, ("a", "b")))
        self.assertCheapest(Book(GRID), dearer, [Goal(RED + BLUE, 1)], (3, ("z",)))

    def test_costs_of_0(self):
        free = [Offer("b", RED, 1, 0), Offer("a", RED, 2, 0), Offer("c", BLUE, 1, 0)]
        self.assertCheapest(Book(GRID), free, [Goal(RED, 2)], (0, ("a",)))
        self.assertCheapest(Book(GRID), free, [Goal(RED, 1)], (0, ("b",)))
        self.assertCheapest(Book(GRID), free, [Goal(RED + BLUE, 2)], (0, ("b", "c")))
        self.assertCheapest(Book(GRID), free, [Goal(RED + BLUE, 1)], None)

    def test_deeds_behind_the_looks(self):
        book = Book(GRID, [Reading(1, "x", RED, 5, 1), Rough(2, "leak", GRID, 0, 0, 2)])
        offers = [Offer("a", RED, 2, 1), Offer("b", RED, 1, 2)]
        for error, wanted in [(3, (0, ())), (2, (1, ("a",))), (1, (2, ("b",)))]:
            self.assertCheapest(book, offers, [Goal(RED, error)], wanted)

    def test_clashes_do_not_matter(self):
        book = Book(GRID, [Reading(1, "x", RED, 5, 1), Reading(2, "y", RED, 50, 1)])
        self.assertCheapest(book, [Offer("a", BLUE, 2, 1)], [Goal(BLUE, 2), Goal(RED, 1)], (1, ("a",)))

    def test_against_all_choices(self):
        kinds = []
        for seed, (book, offers, goals) in enumerate(SALES):
            with self.subTest(seed):
                wanted = answer_of(book, offers, goals)
                self.assertCheapest(book, offers, goals, wanted)
                kinds.append(wanted if wanted is None else len(wanted[1]))
        for kind in (None, 0, 1, 2):
            self.assertGreater(kinds.count(kind), 3)

    def test_what_are_no_goals(self):
        good = Goal(RED, 1)
        for calls in (cheapest, evidence):
            for other in [*not_sequences(), [], (), [good] * 4]:
                with self.assertRaises(NoGoals) as caught:
                    calls(BOOK, OFFERS, other)
                self.assertEqual(caught.exception.place, -1)
            for other in [*other_things(Goal), [good], Goal(FAR, 1)]:
                for place, goals in [(0, [other]), (1, (good, other, other))]:
                    with self.assertRaises(NoGoals) as caught:
                        calls(BOOK, OFFERS, goals)
                    self.assertEqual(caught.exception.place, place)
        self.assertEqual(cheapest(BOOK, OFFERS, [good] * 3), (6, ("both",)))


class CheckTest(unittest.TestCase):
    def setUp(self):
        self.goals = [Goal(BLUE, 5), Goal(RED, 2)]
        self.answer = cheapest(BOOK, OFFERS, self.goals)
        self.found = evidence(BOOK, OFFERS, self.goals)

    def check(self, answer, found, goals=None):
        told = check_cheapest(BOOK, OFFERS, self.goals if goals is None else goals, answer, found)
        self.assertIn(told, BOOLS)
        return told

    def test_the_answer_itself(self):
        self.assertEqual(self.answer, (5, ("eye",)))
        self.assertTrue(self.check(self.answer, self.found))

    def test_other_answers(self):
        wrong = [None, (5, ["eye"]), [5, ("eye",)], (Ratio(5), ("eye",)), (4, ("eye",)), (5, ("ear",)), (3, ("ear",)),
                 (5,), (5, ("eye",), ()), (5, "eye"), (5, ("eye", "eye")), (8, ("ear", "eye")), (8, ("eye", "ear")),
                 (0, ()), (5, (b"eye",)), (5, ("eye", 1)), ("5", ("eye",)), (5, ({},)), (5, ((),)), (5, None),
                 Promise(5, {"eye": 1}), *anything()]
        for other in wrong:
            with self.subTest(repr(other)):
                self.assertFalse(self.check(other, self.found))

    def test_flags(self):
        offers = [Offer("a", RED, 1, 1), Offer("b", RED, 1, 0)]
        goals = [Goal(RED, 1)]
        found = evidence(Book(GRID), offers, goals)
        self.assertTrue(check_cheapest(Book(GRID), offers, goals, (0, ("b",)), found))
        self.assertFalse(check_cheapest(Book(GRID), offers, goals, (False, ("b",)), found))
        self.assertFalse(check_cheapest(Book(GRID), offers, goals, (Ratio(0), ("b",)), found))
        pairs = tuple((False, history) for _, history in found)
        self.assertFalse(check_cheapest(Book(GRID), offers, goals, (0, ("b",)), pairs))
        self.assertFalse(check_cheapest(Book(GRID), offers[:1], goals, (True, ("a",)), found))
        self.assertTrue(check_cheapest(Book(GRID), offers[:1], goals, (1, ("a",)), found))

    def test_other_evidence(self):
        history = self.found[0][1]
        wrong = [list(self.found), [], (), None, self.found[0], (self.found,), tuple(list(pair) for pair in self.found),
                 tuple((place, other.first) for place, other in self.found), ({},), (None,), *anything()]
        for pair in [(2, history), (-1, history), (Ratio(0), history), ("0", history), (True, history), (0, history, 1),
                     (0,), [0, history], (0, History((1,), {})), (0, History((1, 2, 3), {})), (0, History((), {})),
                     (0, None), (None, history), history, 0]:
            wrong.append((*self.found, pair))
            wrong.append((pair, *self.found))
        for other in wrong:
            with self.subTest(repr(other)):
                self.assertFalse(self.check(self.answer, other))

    def test_pairs_that_refute_nothing_are_let(self):
        idle = [(0, History((0, 0), {})), (1, History((0, 0), {"x": 7})), (0, History((10 ** 30, 5), {}))]
        self.assertTrue(self.check(self.answer, (*idle, *self.found)))
        self.assertTrue(self.check(self.answer, (*self.found, *idle * 20)))
        self.assertFalse(self.check(self.answer, tuple(idle)))
        self.assertTrue(self.check((0, ()), tuple(idle[::2]), [Goal(RED + BLUE, 1)]))
        self.assertTrue(self.check((0, ()), (), [Goal(RED + BLUE, 1)]))
        self.assertFalse(self.check((0, ()), tuple(idle), [Goal(RED + BLUE, 1)]))

    def test_one_pair_left_out(self):
        left_out = 0
        for book, offers, goals in SALES:
            answer, found = cheapest(book, offers, goals), evidence(book, offers, goals)
            ahead = []
            for pair in choices_in_order(offers):
                if pair == answer:
                    break
                ahead.append(pair[1])
            for place in range(len(found)):
                fewer = found[:place] + found[place + 1:]
                wanted = all(any(is_refuted(book, offers, goals, choice, pair) for pair in fewer) for choice in ahead)
                self.assertIs(check_cheapest(book, offers, goals, answer, fewer), wanted)
                left_out += not wanted
        self.assertGreater(left_out, 60)

    def test_good_but_not_the_cheapest(self):
        checked = 0
        for book, offers, goals in SALES[:60]:
            answer = cheapest(book, offers, goals)
            every = evidence(book, offers, goals)
            for pair in choices_in_order(offers):
                self.assertIs(check_cheapest(book, offers, goals, pair, every), pair == answer)
                checked += 1
            self.assertIs(check_cheapest(book, offers, goals, None, every), answer is None)
        self.assertGreater(checked, 300)

    def test_none_where_nothing_is_good(self):
        goals = [Goal(BLUE, 0)]
        found = evidence(BOOK, OFFERS, goals)
        self.assertIsNone(cheapest(BOOK, OFFERS, goals))
        self.assertTrue(self.check(None, found, goals))
        self.assertFalse(self.check(None, found[:-1], goals))
        self.assertFalse(self.check((0, ()), found, goals))
        for answer in [(14, ("both", "ear", "eye")), (14, ("eye", "ear", "both")), (3, ("nix",)), (99, ()), (-1, ())]:
            self.assertFalse(self.check(answer, found, goals))

    def test_errors_go_ahead_of_the_answer(self):
        for other in anything():
            with self.assertRaises(NoOffers):
                check_cheapest(BOOK, [], [], other, other)
            with self.assertRaises(NoGoals):
                check_cheapest(BOOK, OFFERS, [], other, other)

    def test_extras_have_to_be_within_their_bounds(self):
        book = Book(GRID, [Planned(1, "x", RED, 1), Rough(2, "leak", GRID, 0, 0, 2)])
        offers = [Offer("a", RED, 1, 4)]
        goals = [Goal(RED, 2)]
        for extra, wanted in [(2, True), (Ratio(3, 2), True), (1, False), (Ratio(2) + TINY, False)]:
            pair = (0, History((1, 0), {"leak": extra}))
            self.assertIs(check_cheapest(book, offers, goals, (4, ("a",)), (pair,)), wanted)
        pair = (0, History((Ratio(1) + TINY, 0), {"leak": 2}))
        self.assertFalse(check_cheapest(book, offers, goals, (4, ("a",)), (pair,)))
        # The answer of the goal's question has to be above the error, not as far below 0.
        pair = (0, History((-1, 0), {"leak": -2}))
        self.assertFalse(check_cheapest(book, offers, goals, (4, ("a",)), (pair,)))


if __name__ == "__main__":
    unittest.main()
