import unittest
from fractions import Fraction

from tests.others import BOOLS, not_integers, not_numbers, not_strings
from toldwithin.errors import NoRatio
from toldwithin.ratios import Ratio

SMALL = range(-4, 5)
BOTTOMS = [bottom for bottom in SMALL if bottom != 0]
PAIRS = [(top, bottom) for top in SMALL for bottom in BOTTOMS]
# As many as make a test quick, and with both signs, zero, and shared divisors.
OPERANDS = [(0, 1), (0, -3), (1, 1), (-1, 1), (3, 1), (-4, 2), (1, 2), (-1, 2), (2, 3), (5, -3), (7, 4), (-9, 6)]


def held(ratio):
    return (ratio.top, ratio.bottom)


def lowest(fraction):
    return (fraction.numerator, fraction.denominator)


class RatioCase(unittest.TestCase):
    def assertWord(self, word, *told):
        with self.assertRaises(NoRatio) as caught:
            Ratio(*told)
        self.assertEqual(caught.exception.word, word)

    def assertRatio(self, found, fraction):
        self.assertIsInstance(found, Ratio)
        self.assertEqual(held(found), lowest(fraction))
        self.assertIs(type(found.top), int)
        self.assertIs(type(found.bottom), int)


class MakingTest(RatioCase):
    def test_lowest_terms_with_signs_on_either_side(self):
        for top, bottom in PAIRS:
            with self.subTest((top, bottom)):
                self.assertRatio(Ratio(top, bottom), Fraction(top, bottom))

    def test_some_by_hand(self):
        self.assertEqual(held(Ratio(6, 4)), (3, 2))
        self.assertEqual(held(Ratio(6, -4)), (-3, 2))
        self.assertEqual(held(Ratio(-6, -4)), (3, 2))
        self.assertEqual(held(Ratio(5)), (5, 1))
        self.assertEqual(held(Ratio(-5)), (-5, 1))
        self.assertEqual(held(Ratio(0)), (0, 1))
        self.assertEqual(held(Ratio(0, 7)), (0, 1))
        self.assertEqual(held(Ratio(0, -7)), (0, 1))

    def test_great_numbers(self):
        great = 3 ** 5000
        self.assertEqual(held(Ratio(great * 10, great * 4)), (5, 2))
        self.assertEqual(held(Ratio(-great, 7)), (-great, 7))
        self.assertEqual(held(Ratio(1, -great)), (-1, great))
        self.assertEqual(held(Ratio(great, 9)), (3 ** 4998, 1))

    def test_by_keyword(self):
        self.assertEqual(held(Ratio(top=2, bottom=4)), (1, 2))

    def test_top_is_no_integer(self):
        for other in not_integers():
            with self.subTest(repr(other)):
                self.assertWord("top", other)
                self.assertWord("top", other, 2)

    def test_bottom_is_no_integer(self):
        for other in not_integers():
            with self.subTest(repr(other)):
                self.assertWord("bottom", 1, other)
                self.assertWord("bottom", 0, other)

    def test_bottom_is_zero(self):
        for top in (0, 1, -5, 3 ** 500):
            self.assertWord("zero", top, 0)

    def test_which_word_goes_first(self):
        for other in not_integers():
            with self.subTest(repr(other)):
                self.assertWord("top", other, 0)
                self.assertWord("top", other, other)
                self.assertWord("top", other, None)
                self.assertWord("top", None, other)

    def test_true_and_false_in_both_places(self):
        for one in BOOLS:
            self.assertWord("top", one)
            self.assertWord("top", one, 1)
            self.assertWord("top", one, 0)
            self.assertWord("bottom", 1, one)
            for other in BOOLS:
                self.assertWord("top", one, other)


class ReckoningTest(RatioCase):
    def test_two_ratios(self):
        for one in OPERANDS:
            for other in OPERANDS:
                with self.subTest((one, other)):
                    a, b = Ratio(*one), Ratio(*other)
                    x, y = Fraction(*one), Fraction(*other)
                    self.assertRatio(a + b, x + y)
                    self.assertRatio(a - b, x - y)
                    self.assertRatio(a * b, x * y)
                    if y != 0:
                        self.assertRatio(a.over(b), x / y)
                    self.assertEqual(held(a), lowest(x))
                    self.assertEqual(held(b), lowest(y))

    def test_an_integer_on_either_side(self):
        for one in OPERANDS:
            for number in (-7, -1, 0, 1, 2, 12):
                with self.subTest((one, number)):
                    a, x = Ratio(*one), Fraction(*one)
                    self.assertRatio(a + number, x + number)
                    self.assertRatio(number + a, number + x)
                    self.assertRatio(a - number, x - number)
                    self.assertRatio(number - a, number - x)
                    self.assertRatio(a * number, x * number)
                    self.assertRatio(number * a, number * x)
                    if number != 0:
                        self.assertRatio(a.over(number), x / number)

    def test_negation_and_abs(self):
        for one in OPERANDS:
            with self.subTest(one):
                a, x = Ratio(*one), Fraction(*one)
                self.assertRatio(-a, -x)
                self.assertRatio(abs(a), abs(x))
                self.assertEqual(held(a), lowest(x))

    def test_great_numbers(self):
        top, bottom = 7 ** 3000, 5 ** 3000
        a, x = Ratio(top, bottom), Fraction(top, bottom)
        self.assertRatio(a + a, x + x)
        self.assertRatio(a * a, x * x)
        self.assertRatio(a - 1, x - 1)
        self.assertRatio(a.over(-3), x / -3)

    def test_over_zero(self):
        for zero in (0, Ratio(0), Ratio(0, -3)):
            for one in (Ratio(1), Ratio(0), Ratio(-2, 3)):
                with self.assertRaises(NoRatio) as caught:
                    one.over(zero)
                self.assertEqual(caught.exception.word, "zero")

    def test_over_keeps_the_sign_above(self):
        self.assertEqual(held(Ratio(1, 2).over(Ratio(-3, 4))), (-2, 3))
        self.assertEqual(held(Ratio(-1, 2).over(-2)), (1, 4))


class ComparingTest(RatioCase):
    def assertOrder(self, a, b, x, y):
        for found, wanted in [(a < b, x < y), (a <= b, x <= y), (a > b, x > y), (a >= b, x >= y)]:
            self.assertIs(found, wanted)
        self.assertIs(a == b, x == y)
        self.assertIs(a != b, x != y)

    def test_two_ratios(self):
        for one in PAIRS:
            for other in PAIRS:
                with self.subTest((one, other)):
                    self.assertOrder(Ratio(*one), Ratio(*other), Fraction(*one), Fraction(*other))

    def test_an_integer_on_either_side(self):
        for one in PAIRS:
            for number in SMALL:
                with self.subTest((one, number)):
                    self.assertOrder(Ratio(*one), number, Fraction(*one), number)
                    self.assertOrder(number, Ratio(*one), number, Fraction(*one))

    def test_great_numbers_that_differ_by_little(self):
        great = 10 ** 900
        self.assertOrder(Ratio(great, great + 1), Ratio(great - 1, great), 1, 0)
        self.assertOrder(Ratio(great + 1, great), 1, 1, 0)
        self.assertOrder(Ratio(great), great, 0, 0)

    def test_unequal_to_anything_else(self):
        for other in not_numbers():
            if isinstance(other, bool):
                continue
            for ratio in (Ratio(0), Ratio(1), Ratio(1, 2)):
                with self.subTest(repr(other)):
                    self.assertIs(ratio == other, False)
                    self.assertIs(other == ratio, False)
                    self.assertIs(ratio != other, True)
                    self.assertIs(other != ratio, True)
        self.assertFalse(Ratio(1, 2) == "1/2")
        self.assertFalse(Ratio(1) == (1, 1))


class TextTest(RatioCase):
    def assertNoText(self, text):
        with self.assertRaises(NoRatio) as caught:
            Ratio.read(text)
        self.assertEqual(caught.exception.word, "text")

    def test_texts(self):
        wanted = {
            (3, 4): "3/4", (-5, 1): "-5", (0, 1): "0", (0, -8): "0", (6, -4): "-3/2", (10, 5): "2", (100, 1): "100",
            (1, 100): "1/100", (-1, 3): "-1/3", (1, 1): "1", (12345678901, 10): "12345678901/10",
        }
        for pair, text in wanted.items():
            self.assertEqual(Ratio(*pair).text(), text)

    def test_long_texts(self):
        self.assertEqual(Ratio(10 ** 3999).text(), "1" + "0" * 3999)
        self.assertEqual(Ratio(-1, 10 ** 3999).text(), "-1/1" + "0" * 3999)

    def test_reading_back(self):
        for pair in PAIRS:
            self.assertRatio(Ratio.read(Ratio(*pair).text()), Fraction(*pair))
        for text in ("0", "7", "-7", "10/3", "-10/3", "105", "1/10", "90/7"):
            self.assertEqual(Ratio.read(text).text(), text)

    def test_read_off_an_object(self):
        self.assertEqual(held(Ratio(5).read("1/2")), (1, 2))

    def test_sixty_digits(self):
        most = "9" * 60
        self.assertEqual(held(Ratio.read(most)), (10 ** 60 - 1, 1))
        self.assertEqual(held(Ratio.read("-" + most)), (1 - 10 ** 60, 1))
        self.assertEqual(held(Ratio.read("1/" + most)), (1, 10 ** 60 - 1))
        self.assertEqual(held(Ratio.read("-" + "1" + "0" * 59 + "/" + most)), (-10 ** 59, 10 ** 60 - 1))

    def test_more_than_sixty_digits(self):
        more = "1" + "0" * 60
        for text in (more, "-" + more, "1/" + more, more + "/3", "-" + more + "/7", "9" * 61, "-1/" + "9" * 61):
            self.assertNoText(text)
        self.assertNoText("9" * 5000)
        self.assertNoText("1/" + "9" * 5000)

    def test_texts_of_no_ratio(self):
        for text in [
            "", "-", "/", "1/", "/1", "-/1", "1/-2", "--1", "+1", "+1/2", "-0", "00", "01", "-01", "007", "1/02",
            "01/2", "1/1", "5/1", "0/1", "0/5", "-0/5", "2/4", "-2/4", "10/5", "1/0", "0/0", "-1/0", "1/00", " 1",
            "1 ", "1 /2", "1/ 2", "- 1", "1\n", "\n1", "1.5", "1,5", "1e3", "1_0", "0x1", "a", "1/a", "1//2",
            "1/2/3", "1/+2", "-1/-2", "one", "None", "1-", "1-2", "1/2-", "--1/2", "-+1",
        ]:
            with self.subTest(text):
                self.assertNoText(text)

    def test_no_strings(self):
        for other in not_strings():
            with self.subTest(repr(other)):
                self.assertNoText(other)
        self.assertNoText(b"1")


if __name__ == "__main__":
    unittest.main()
