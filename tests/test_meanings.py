import unittest

from tests.others import not_numbers, not_sequences
from toldwithin.errors import NoAmounts, NoMeaning
from toldwithin.grids import Grid
from toldwithin.meanings import meaning, reckoned
from toldwithin.parsing import parse
from toldwithin.questions import Listed, Question, each_of, nothing_of, sum_of
from toldwithin.ratios import Ratio
from toldwithin.trees import Expression

GRID = Grid([("year", ["a", "b"]), ("kind", ["red", "blue"])])
AMOUNTS = [1, 2, 3, Ratio(1, 2)]


class MeaningCase(unittest.TestCase):
    def setUp(self):
        self.number = Ratio(2, 3)
        self.question = Question(GRID, [1, 0, -2, Ratio(1, 2)])
        self.listed = Listed("kind", each_of(GRID, "kind", [("year", ["a"])]))
        self.years = Listed("year", each_of(GRID, "year", []))
        self.names = {"n": self.number, "five": 5, "q": self.question, "k": self.listed, "y": self.years, "zero": 0,
                      "none": Ratio(0), "nil": nothing_of(GRID)}

    def meant(self, text):
        return meaning(parse(text), GRID, self.names)

    def assertWord(self, word, text, *others):
        with self.assertRaises(NoMeaning) as caught:
            meaning(parse(text), GRID, *(others or (self.names,)))
        self.assertEqual(caught.exception.word, word)

    def assertSame(self, found, wanted):
        self.assertIs(type(found), type(wanted))
        self.assertTrue(found == wanted)


class LeavesTest(MeaningCase):
    def test_figures(self):
        for figure in (0, 1, 77, 10 ** 60):
            found = meaning(Expression("figure", [figure]), GRID)
            self.assertIs(type(found), Ratio)
            self.assertEqual((found.top, found.bottom), (figure, 1))

    def test_names(self):
        self.assertSame(self.meant("n"), Ratio(2, 3))
        self.assertSame(self.meant("q"), self.question)
        self.assertSame(self.meant("k"), self.listed)
        self.assertSame(self.meant("five"), Ratio(5))
        self.assertSame(self.meant("zero"), Ratio(0))

    def test_names_that_are_not_there(self):
        self.assertWord("name", "x")
        self.assertWord("name", "n", None)
        self.assertWord("name", "n", {})
        self.assertWord("name", "n", {"m": 1})
        with self.assertRaises(NoMeaning) as caught:
            meaning(parse("n"), GRID)
        self.assertEqual(caught.exception.word, "name")

    def test_no_names_are_needed(self):
        for names in (None, {}):
            self.assertSame(meaning(parse("1 + 2"), GRID, names), Ratio(3))
            self.assertSame(meaning(parse("sum()"), GRID, names=names), sum_of(GRID, []))
        self.assertSame(meaning(parse("each(kind)"), GRID), Listed("kind", each_of(GRID, "kind", [])))

    def test_sums(self):
        self.assertSame(self.meant("sum()"), sum_of(GRID, []))
        self.assertSame(self.meant("sum(kind=blue)"), sum_of(GRID, [("kind", ["blue"])]))
        self.assertSame(self.meant("sum(kind=blue|blue|red, year=b)"), sum_of(GRID, [("year", ["b"])]))

    def test_eachs(self):
        self.assertSame(self.meant("each(year)"), self.years)
        self.assertSame(self.meant("each(kind, year=a)"), self.listed)
        self.assertSame(self.meant("each(year, kind=red|blue)"), self.years)

    def test_wrong_wishes(self):
        for text, word in [
            ("sum(color=red)", "axis"), ("sum(red=red)", "axis"), ("sum(kind=green)", "member"),
            ("sum(kind=a)", "member"), ("sum(kind=red|green)", "member"), ("sum(kind=red, kind=blue)", "axis"),
            ("sum(kind=red, kind=red)", "axis"), ("sum(kind=red, color=x)", "axis"),
            ("sum(kind=green, color=x)", "member"), ("sum(color=x, kind=green)", "axis"),
            ("sum(kind=red, year=c)", "member"), ("sum(kind=green, kind=red)", "member"),
            ("sum(kind=red, kind=green)", "axis"), ("each(color)", "axis"), ("each(red)", "axis"),
            ("each(color, kind=green)", "axis"), ("each(kind, color=x)", "axis"), ("each(kind, year=c)", "member"),
            ("each(kind, kind=red)", "axis"), ("each(kind, kind=green)", "axis"),
            ("each(kind, year=c, kind=red)", "member"), ("each(kind, year=a, year=b)", "axis"),
            ("each(kind, year=a, kind=red)", "axis"), ("each(color, color=x)", "axis"),
        ]:
            with self.subTest(text):
                self.assertWord(word, text)


class JoinedTest(MeaningCase):
    def test_plus_and_minus(self):
        for name, value in [("n", self.number), ("q", self.question), ("k", self.listed), ("y", self.years)]:
            self.assertSame(self.meant(f"{name} + {name}"), value + value)
            self.assertSame(self.meant(f"{name} - 3 * {name}"), value * -2)
        self.assertSame(self.meant("n + five"), Ratio(17, 3))
        self.assertSame(self.meant("n - 1"), Ratio(-1, 3))
        self.assertSame(self.meant("q - sum()"), self.question - sum_of(GRID, []))
        self.assertSame(self.meant("k - each(kind)"), self.listed - Listed("kind", each_of(GRID, "kind", [])))
        self.assertSame(self.meant("each(kind) - k"), Listed("kind", each_of(GRID, "kind", [("year", ["b"])])))

    def test_plus_and_minus_of_other_kinds(self):
        for sign in "+-":
            for one, other in ["nq", "nk", "qk", "ky"]:
                self.assertWord("kinds", f"{one} {sign} {other}")
                self.assertWord("kinds", f"{other} {sign} {one}")
            self.assertWord("kinds", f"0 {sign} q")
            self.assertWord("kinds", f"sum() {sign} five")

    def test_times(self):
        for name, value in [("n", self.number), ("q", self.question), ("k", self.listed), ("y", self.years)]:
            for number, worth in [("3", 3), ("n", self.number), ("zero", 0), ("-five", -5)]:
                self.assertSame(self.meant(f"{name} * {number}"), value * worth)
                self.assertSame(self.meant(f"{number} * {name}"), value * worth)

    def test_times_of_other_kinds(self):
        for one in "qky":
            for other in "qky":
                self.assertWord("kinds", f"{one} * {other}")
        self.assertWord("kinds", "nil * nil")

    def test_over(self):
        for name, value in [("n", self.number), ("q", self.question), ("k", self.listed), ("y", self.years)]:
            self.assertSame(self.meant(f"{name} / 4"), value * Ratio(1, 4))
            self.assertSame(self.meant(f"{name} / -n"), value * Ratio(-3, 2))
            self.assertSame(self.meant(f"{name} / five"), value * Ratio(1, 5))

    def test_over_other_kinds(self):
        for one in ["n", "q", "k", "y", "1", "0", "nil"]:
            for other in ["q", "k", "y", "nil"]:
                self.assertWord("kinds", f"{one} / {other}")

    def test_over_zero(self):
        for one in ["n", "q", "k", "y", "1", "0", "nil"]:
            for zero in ["0", "zero", "none", "(1 - 1)", "-0", "(n - n)"]:
                self.assertWord("zero", f"{one} / {zero}")

    def test_negated(self):
        for name, value in [("n", self.number), ("q", self.question), ("k", self.listed), ("five", Ratio(5))]:
            self.assertSame(self.meant(f"-{name}"), -value)
            self.assertSame(self.meant(f"--{name}"), value)

    def test_expressions_within_expressions(self):
        wanted = (sum_of(GRID, [("kind", ["red"])]) - self.question * 2).over(Ratio(7, 3))
        self.assertSame(self.meant("(sum(kind=red) - 2 * q) / (3 - n)"), wanted)
        self.assertSame(self.meant("1 / 2 / 4 * 2 - 1 / 4"), Ratio(0))
        self.assertSame(self.meant("(five - 1) * 2"), Ratio(8))


class OrderTest(MeaningCase):
    def test_the_first_thing_that_is_wrong(self):
        wrong = {"x": "name", "sum(color=x)": "axis", "sum(kind=x)": "member", "(1 + q)": "kinds", "(1 / 0)": "zero",
                 "each(red)": "axis", "(q * q)": "kinds", "(q / q)": "kinds", "-(q / 0)": "zero"}
        for one, word in wrong.items():
            for other in wrong:
                for sign in "+-*/":
                    with self.subTest((one, sign, other)):
                        self.assertWord(word, f"{one} {sign} {other}")
            for right in ("1", "q", "k", "0"):
                for sign in "+-*/":
                    with self.subTest((one, sign, right)):
                        self.assertWord(word, f"{one} {sign} {right}")
                        self.assertWord(word, f"{right} {sign} {one}")
            self.assertWord(word, f"-{one}")

    def test_each_part_whole(self):
        self.assertWord("kinds", "(1 + q) + x")
        self.assertWord("name", "x + (1 + q)")
        self.assertWord("zero", "(1 / (1 - 1)) * (q + x)")
        self.assertWord("name", "(q + x) / 0")
        self.assertWord("kinds", "1 + q + x")
        self.assertWord("name", "1 + q * x")


class UnchangedTest(MeaningCase):
    def test_the_dict_and_what_it_has(self):
        names = dict(self.names)
        for text in ("five + n", "-q", "k * 3", "q - q / 2", "k - y", "x", "1 / zero"):
            try:
                self.meant(text)
            except NoMeaning:
                pass
        self.assertEqual(list(self.names.items()), list(names.items()))
        self.assertIs(type(self.names["five"]), int)
        self.assertEqual(self.question, Question(GRID, [1, 0, -2, Ratio(1, 2)]))
        self.assertEqual(self.listed, Listed("kind", each_of(GRID, "kind", [("year", ["a"])])))
        self.assertEqual(self.number, Ratio(2, 3))

    def test_equal_calls(self):
        for text in ("n * q", "k + k", "1 / 3"):
            self.assertSame(self.meant(text), self.meant(text))


class ReckonedTest(MeaningCase):
    def test_numbers(self):
        found = reckoned(parse("1 / 4 + 2"), GRID, AMOUNTS)
        self.assertSame(found, Ratio(9, 4))
        self.assertSame(reckoned(parse("five * n"), GRID, tuple(AMOUNTS), self.names), Ratio(10, 3))
        self.assertSame(reckoned(parse("7"), GRID, AMOUNTS), Ratio(7))

    def test_questions(self):
        self.assertSame(reckoned(parse("sum()"), GRID, AMOUNTS), Ratio(13, 2))
        self.assertSame(reckoned(parse("q"), GRID, AMOUNTS, self.names), Ratio(-19, 4))
        self.assertSame(reckoned(parse("2 * sum(kind=blue) - q"), GRID, AMOUNTS, names=self.names), Ratio(39, 4))

    def test_lists(self):
        for amounts in (AMOUNTS, tuple(AMOUNTS)):
            found = reckoned(parse("each(kind) / 2"), GRID, amounts)
            self.assertIs(type(found), list)
            self.assertEqual([number.text() for number in found], ["2", "5/4"])
            self.assertEqual({type(number) for number in found}, {Ratio})

    def test_it_is_the_meaning_at_the_amounts(self):
        for text in ("q", "k", "y", "sum(kind=red) - q", "each(year, kind=red) * n", "-k / 7", "nil"):
            meant = self.meant(text)
            self.assertEqual(reckoned(parse(text), GRID, AMOUNTS, self.names), meant.at(AMOUNTS))

    def test_no_amounts_goes_ahead(self):
        wrong = [*not_sequences(), [], [1], [1, 2, 3], [1, 2, 3, 4, 5], *[[1, 2, 3, other] for other in not_numbers()]]
        for amounts in wrong:
            for text in ("1", "sum()", "each(kind)", "x", "1 / 0", "sum(color=red)"):
                with self.subTest((repr(amounts), text)):
                    with self.assertRaises(NoAmounts):
                        reckoned(parse(text), GRID, amounts, self.names)

    def test_no_meaning(self):
        for text, word in [
            ("x", "name"), ("1 / 0", "zero"), ("q + 1", "kinds"), ("sum(red=a)", "axis"),
            ("each(kind, year=c)", "member"),
        ]:
            with self.assertRaises(NoMeaning) as caught:
                reckoned(parse(text), GRID, AMOUNTS, self.names)
            self.assertEqual(caught.exception.word, word)


if __name__ == "__main__":
    unittest.main()
