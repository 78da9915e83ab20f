import unittest

from tests.others import not_numbers, not_sequences, not_strings
from toldwithin.errors import NoAmounts, NoAxis, NoQuestion, NoRatio, NoWish, OtherGrid
from toldwithin.grids import Grid
from toldwithin.questions import Listed, Question, each_of, nothing_of, sum_of
from toldwithin.ratios import Ratio

KINDS = [("kind", ["red", "blue", "grey"])]
HALF = Ratio(1, 2)


def texts(question):
    return [weight.text() for weight in question.weights]


class QuestionCase(unittest.TestCase):
    def setUp(self):
        self.grid = Grid(KINDS)
        self.other = Grid([("kind", ["red", "blue", "green"])])

    def assertQuestion(self, question, *weights):
        self.assertIsInstance(question, Question)
        self.assertEqual(texts(question), list(weights))
        self.assertIs(type(question.weights), tuple)
        self.assertEqual({type(weight) for weight in question.weights}, {Ratio})
        self.assertEqual(question.grid, self.grid)


class MakingTest(QuestionCase):
    def assertWord(self, word, grid, weights):
        with self.assertRaises(NoQuestion) as caught:
            Question(grid, weights)
        self.assertEqual(caught.exception.word, word)

    def test_the_fields(self):
        self.assertQuestion(Question(self.grid, [1, Ratio(4, 6), -2]), "1", "2/3", "-2")
        self.assertQuestion(Question(self.grid, (0, 0, Ratio(-1, 3))), "0", "0", "-1/3")

    def test_no_grid(self):
        for other in [*not_strings(), "kind", self.grid.axes]:
            if isinstance(other, Grid):
                continue
            with self.subTest(repr(other)):
                self.assertWord("grid", other, [1, 2, 3])
                self.assertWord("grid", other, None)

    def test_no_sequence_of_weights(self):
        for other in [*not_sequences(), "123", {0: 1, 1: 2, 2: 3}, range(3), b"abc"]:
            with self.subTest(repr(other)):
                self.assertWord("weights", self.grid, other)

    def test_too_few_and_too_many_weights(self):
        for weights in [(), [1], [1, 2], (1, 2, 3, 4), [1, 2, 3, None]]:
            self.assertWord("weights", self.grid, weights)

    def test_a_weight_that_is_no_number(self):
        for other in not_numbers():
            for weights in [[other, 1, 2], (1, other, 2), [1, HALF, other]]:
                with self.subTest(repr(other)):
                    self.assertWord("weights", self.grid, weights)

    def test_what_was_passed_may_change(self):
        weights = [1, 2, 3]
        question = Question(self.grid, weights)
        self.assertEqual(weights, [1, 2, 3])
        weights[0] = 9
        weights.append(4)
        self.assertQuestion(question, "1", "2", "3")


class EqualityTest(QuestionCase):
    def test_equal(self):
        question = Question(self.grid, [1, HALF, 0])
        self.assertTrue(question == Question(Grid(KINDS), (Ratio(2, 2), Ratio(3, 6), 0)))
        self.assertFalse(question != Question(Grid(KINDS), (1, HALF, 0)))

    def test_unequal(self):
        question = Question(self.grid, [1, HALF, 0])
        for other in [
            Question(self.grid, [1, HALF, 1]), Question(self.grid, [HALF, 1, 0]),
            Question(self.other, [1, HALF, 0]), Question(self.grid, [-1, HALF, 0]),
        ]:
            self.assertFalse(question == other)
            self.assertTrue(question != other)

    def test_anything_else(self):
        question = Question(self.grid, [1, 0, 0])
        for other in [*not_strings(), "1,0,0", question.weights, (self.grid, question.weights)]:
            with self.subTest(repr(other)):
                self.assertFalse(question == other)
                self.assertTrue(question != other)


class AtTest(QuestionCase):
    def test_answers(self):
        question = Question(self.grid, [1, HALF, -3])
        for amounts, wanted in [
            ([0, 0, 0], "0"), ((1, 0, 0), "1"), ([0, 1, 0], "1/2"), ((0, 0, 1), "-3"), ([5, 7, 2], "5/2"),
            ([HALF, Ratio(1, 3), Ratio(1, 9)], "1/3"), ((-1, -2, -3), "7"),
        ]:
            answer = question.at(amounts)
            self.assertIs(type(answer), Ratio)
            self.assertEqual(answer.text(), wanted)

    def test_nothing_at_all(self):
        answer = nothing_of(self.grid).at([1, 2, 3])
        self.assertIs(type(answer), Ratio)
        self.assertEqual(answer.text(), "0")

    def test_no_amounts(self):
        question = Question(self.grid, [1, 2, 3])
        wrong = [*not_sequences(), (), [1], [1, 2], (1, 2, 3, 4), "123"]
        wrong.extend([1, 2, other] for other in not_numbers())
        wrong.extend((other, HALF, 0) for other in not_numbers())
        for amounts in wrong:
            with self.subTest(repr(amounts)):
                with self.assertRaises(NoAmounts):
                    question.at(amounts)

    def test_amounts_stay_as_they_were(self):
        amounts = [1, HALF, 3]
        Question(self.grid, [1, 2, 3]).at(amounts)
        self.assertEqual(amounts, [1, HALF, 3])
        self.assertIs(type(amounts[0]), int)


class OperatorTest(QuestionCase):
    def test_two_questions(self):
        one, two = Question(self.grid, [1, HALF, -3]), Question(self.grid, (5, HALF, Ratio(1, 3)))
        self.assertQuestion(one + two, "6", "1", "-8/3")
        self.assertQuestion(one - two, "-4", "0", "-10/3")
        self.assertQuestion(two - one, "4", "0", "10/3")
        self.assertQuestion(one - one, "0", "0", "0")
        self.assertQuestion(one, "1", "1/2", "-3")
        self.assertQuestion(two, "5", "1/2", "1/3")

    def test_negation(self):
        one = Question(self.grid, [1, 0, Ratio(-2, 3)])
        self.assertQuestion(-one, "-1", "0", "2/3")
        self.assertQuestion(one, "1", "0", "-2/3")

    def test_a_number_on_either_side(self):
        one = Question(self.grid, [1, HALF, -3])
        self.assertQuestion(one * 4, "4", "2", "-12")
        self.assertQuestion(4 * one, "4", "2", "-12")
        self.assertQuestion(one * Ratio(-2, 3), "-2/3", "-1/3", "2")
        self.assertQuestion(Ratio(-2, 3) * one, "-2/3", "-1/3", "2")
        self.assertQuestion(one * 0, "0", "0", "0")
        self.assertQuestion(Ratio(0) * one, "0", "0", "0")
        self.assertQuestion(one, "1", "1/2", "-3")

    def test_over(self):
        one = Question(self.grid, [1, HALF, -3])
        self.assertQuestion(one.over(2), "1/2", "1/4", "-3/2")
        self.assertQuestion(one.over(Ratio(-3, 4)), "-4/3", "-2/3", "4")
        self.assertQuestion(one, "1", "1/2", "-3")

    def test_over_zero(self):
        for question in (Question(self.grid, [1, 2, 3]), nothing_of(self.grid)):
            for zero in (0, Ratio(0)):
                with self.assertRaises(NoRatio) as caught:
                    question.over(zero)
                self.assertEqual(caught.exception.word, "zero")

    def test_unequal_grids(self):
        one, two = Question(self.grid, [1, 2, 3]), Question(self.other, [1, 2, 3])
        more = nothing_of(Grid([("kind", ["red"])]))
        for other in (two, more):
            with self.assertRaises(OtherGrid):
                one + other
            with self.assertRaises(OtherGrid):
                one - other
            with self.assertRaises(OtherGrid):
                other + one

    def test_equal_grids_that_are_not_the_same(self):
        one, two = Question(self.grid, [1, 2, 3]), Question(Grid(KINDS), [1, 1, 1])
        self.assertQuestion(one + two, "2", "3", "4")
        self.assertQuestion(one - two, "0", "1", "2")

    def test_is_nothing(self):
        for weights, wanted in [
            ([0, 0, 0], True), ([Ratio(0), 0, Ratio(0, 5)], True), ([0, 0, 1], False), ([HALF, 0, 0], False),
            ([1, -1, 0], False), ([0, -1, 0], False), ([1, 1, 1], False),
        ]:
            self.assertIs(Question(self.grid, weights).is_nothing(), wanted)


class RegionTest(unittest.TestCase):
    def setUp(self):
        self.grid = Grid([("x", ["a", "b"]), ("y", ["c", "d", "e"])])

    def test_sum_of(self):
        for wish, wanted in [
            ([], [1, 1, 1, 1, 1, 1]), ([("x", ["b"])], [0, 0, 0, 1, 1, 1]),
            ((("y", ("c", "e")),), [1, 0, 1, 1, 0, 1]), ([["y", ["d", "d"]], ["x", ["a"]]], [0, 1, 0, 0, 0, 0]),
            ([("x", ["b", "a"])], [1, 1, 1, 1, 1, 1]),
        ]:
            found = sum_of(self.grid, wish)
            self.assertIsInstance(found, Question)
            self.assertEqual(found.grid, self.grid)
            self.assertEqual(list(found.weights), wanted)
            self.assertEqual({type(weight) for weight in found.weights}, {Ratio})

    def test_nothing_of(self):
        found = nothing_of(self.grid)
        self.assertEqual(found, Question(self.grid, [0] * 6))
        self.assertTrue(found.is_nothing())

    def assertEach(self, axis, wish, *wanted):
        found = each_of(self.grid, axis, wish)
        self.assertIs(type(found), list)
        self.assertEqual([list(question.weights) for question in found], list(wanted))
        self.assertEqual([question.grid for question in found], [self.grid] * len(wanted))

    def test_each_of(self):
        self.assertEach("x", [], [1, 1, 1, 0, 0, 0], [0, 0, 0, 1, 1, 1])
        self.assertEach("y", (), [1, 0, 0, 1, 0, 0], [0, 1, 0, 0, 1, 0], [0, 0, 1, 0, 0, 1])
        self.assertEach("x", [("y", ["e", "c"])], [1, 0, 1, 0, 0, 0], [0, 0, 0, 1, 0, 1])
        self.assertEach("y", (["x", ("b", "b")],), [0, 0, 0, 1, 0, 0], [0, 0, 0, 0, 1, 0], [0, 0, 0, 0, 0, 1])

    def test_each_of_in_the_order_of_the_members(self):
        grid = Grid([("kind", ["red", "blue", "ash"])])
        answers = [question.at([3, 1, 2]).text() for question in each_of(grid, "kind", [])]
        self.assertEqual(answers, ["3", "1", "2"])

    def test_the_returned_list_is_new(self):
        each_of(self.grid, "x", []).clear()
        self.assertEqual(len(each_of(self.grid, "x", [])), 2)

    def assertWish(self, place, word, told):
        with self.assertRaises(NoWish) as caught:
            told()
        self.assertEqual((caught.exception.place, caught.exception.word), (place, word))

    def test_wrong_wishes(self):
        for wish, place, word in [
            (None, -1, "wish"), ("ab", -1, "wish"), ([5], 0, "pair"), ([("z", ["c"])], 0, "axis"),
            ([("y", ["c"]), ("y", ["c"])], 1, "axis"), ([("y", [])], 0, "members"), ([("y", ["a"])], 0, "members"),
        ]:
            self.assertWish(place, word, lambda: sum_of(self.grid, wish))
            self.assertWish(place, word, lambda: each_of(self.grid, "x", wish))

    def test_a_pair_that_names_the_axis_itself(self):
        self.assertWish(0, "axis", lambda: each_of(self.grid, "x", [("x", ["a"])]))
        self.assertWish(0, "axis", lambda: each_of(self.grid, "x", [("x", [])]))
        self.assertWish(1, "axis", lambda: each_of(self.grid, "x", [("y", ["c"]), ("x", ["a", "b"])]))
        self.assertWish(0, "members", lambda: each_of(self.grid, "x", [("y", ["a"]), ("x", ["a"])]))
        self.assertWish(0, "pair", lambda: each_of(self.grid, "x", [("x",), ("x", ["a"])]))
        self.assertWish(0, "axis", lambda: each_of(self.grid, "x", [("x", ["a"]), 5]))

    def test_no_axis_goes_ahead_of_no_wish(self):
        for other in [*not_strings(), "", "z", "a", "X", "sum", "xx"]:
            for wish in ([], None, [5], [("x", ["a"])], [("z", [])]):
                with self.subTest(repr(other)):
                    with self.assertRaises(NoAxis):
                        each_of(self.grid, other, wish)


class ListedTest(unittest.TestCase):
    def setUp(self):
        self.grid = Grid([("kind", ["red", "blue"]), ("x", ["a", "b"])])
        self.one = Listed("kind", each_of(self.grid, "kind", []))
        self.two = Listed("kind", each_of(self.grid, "kind", [("x", ["a"])]))

    def assertListed(self, found, *wanted):
        self.assertIsInstance(found, Listed)
        self.assertEqual(found.axis, "kind")
        self.assertIs(type(found.questions), tuple)
        self.assertEqual([question.grid for question in found.questions], [self.grid] * len(wanted))
        self.assertEqual([" ".join(texts(question)) for question in found.questions], list(wanted))

    def test_the_fields(self):
        self.assertListed(self.one, "1 1 0 0", "0 0 1 1")
        self.assertListed(self.two, "1 0 0 0", "0 0 1 0")

    def test_creating_one_checks_nothing(self):
        question = nothing_of(self.grid)
        other = nothing_of(Grid([("year", ["a"])]))
        self.assertEqual(Listed("none", [question]).questions, (question,))
        self.assertEqual(Listed("kind", (question, other, question)).questions, (question, other, question))
        self.assertEqual(Listed("kind", ()).questions, ())
        self.assertEqual(Listed(None, [1, None]).questions, (1, None))
        self.assertEqual(Listed(None, [1, None]).axis, None)

    def test_what_was_passed_may_change(self):
        questions = each_of(self.grid, "kind", [])
        found = Listed("kind", questions)
        questions.pop()
        self.assertListed(found, "1 1 0 0", "0 0 1 1")

    def test_two_of_them(self):
        self.assertListed(self.one + self.two, "2 1 0 0", "0 0 2 1")
        self.assertListed(self.one - self.two, "0 1 0 0", "0 0 0 1")
        self.assertListed(self.two - self.one, "0 -1 0 0", "0 0 0 -1")
        self.assertListed(self.one, "1 1 0 0", "0 0 1 1")
        self.assertListed(self.two, "1 0 0 0", "0 0 1 0")

    def test_negation(self):
        self.assertListed(-self.two, "-1 0 0 0", "0 0 -1 0")

    def test_a_number_on_either_side(self):
        self.assertListed(self.two * 3, "3 0 0 0", "0 0 3 0")
        self.assertListed(3 * self.two, "3 0 0 0", "0 0 3 0")
        self.assertListed(self.two * HALF, "1/2 0 0 0", "0 0 1/2 0")
        self.assertListed(HALF * self.two, "1/2 0 0 0", "0 0 1/2 0")
        self.assertListed(self.two, "1 0 0 0", "0 0 1 0")

    def test_over(self):
        self.assertListed(self.one.over(-2), "-1/2 -1/2 0 0", "0 0 -1/2 -1/2")
        self.assertListed(self.two.over(Ratio(2, 3)), "3/2 0 0 0", "0 0 3/2 0")
        for zero in (0, Ratio(0)):
            with self.assertRaises(NoRatio) as caught:
                self.one.over(zero)
            self.assertEqual(caught.exception.word, "zero")

    def test_at(self):
        for amounts in ([1, 2, 3, HALF], (1, 2, 3, HALF)):
            answers = self.one.at(amounts)
            self.assertIs(type(answers), list)
            self.assertEqual([answer.text() for answer in answers], ["3", "7/2"])
            self.assertEqual({type(answer) for answer in answers}, {Ratio})

    def test_at_no_amounts(self):
        for amounts in (None, [], [1, 2, 3], [1, 2, 3, True], "1234"):
            with self.assertRaises(NoAmounts):
                self.one.at(amounts)

    def test_equal(self):
        self.assertTrue(self.one == Listed("kind", tuple(each_of(self.grid, "kind", ()))))
        self.assertFalse(self.one != Listed("kind", each_of(self.grid, "kind", [])))

    def test_unequal(self):
        questions = self.one.questions
        for other in [
            self.two, Listed("x", questions), Listed("kind", questions[:1]), Listed("kind", questions[::-1]),
            Listed("kind", [*questions, questions[0]]),
        ]:
            self.assertFalse(self.one == other)
            self.assertTrue(self.one != other)

    def test_anything_else(self):
        for other in [
            *not_strings(), "kind", self.one.questions, list(self.one.questions), ("kind", self.one.questions),
        ]:
            with self.subTest(repr(other)):
                self.assertFalse(self.one == other)
                self.assertTrue(self.one != other)


if __name__ == "__main__":
    unittest.main()
