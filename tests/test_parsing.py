import ast
import itertools
import random
import unittest

from tests.others import names, not_strings
from toldwithin.errors import BadText, NoExpression
from toldwithin.parsing import parse, show
from toldwithin.trees import Expression

BINARY = {ast.Add: "plus", ast.Sub: "minus", ast.Mult: "times", ast.Div: "over"}
# One text for each sort of token, and some that can stand nowhere.
TOKENS = ["7", "a", "sum", "each", "+", "-", "*", "/", "(", ")", "=", "|", ",", "?", "2x"]


def name(word):
    return Expression("name", [word])


def figure(number):
    return Expression("figure", [number])


def python_tree(text):
    """The tree by Python's own rules, which are the same for names, figures, signs and parentheses."""
    return converted(ast.parse(text.strip(), mode="eval").body)


def converted(node):
    if isinstance(node, ast.Name):
        return name(node.id)
    if isinstance(node, ast.Constant):
        return figure(node.value)
    if isinstance(node, ast.UnaryOp):
        return Expression("negated", [converted(node.operand)])
    return Expression(BINARY[type(node.op)], [converted(node.left), converted(node.right)])


# What may follow in each state of a text, told token by token; "part" waits for a number, a name and
# the like, "sign" for what stands behind one. Parentheses are counted apart.
AFTER = {
    "part": {"7": "sign", "a": "sign", "-": "part", "(": "part", "sum": "sum", "each": "each"},
    "sign": {"+": "part", "-": "part", "*": "part", "/": "part", ")": "sign"},
    "sum": {"(": "pairs"},
    "pairs": {"a": "axis", ")": "sign"},
    "pair": {"a": "axis"},
    "axis": {"=": "member"},
    "member": {"a": "members"},
    "members": {"|": "member", ",": "pair", ")": "sign"},
    "each": {"(": "own"},
    "own": {"a": "others"},
    "others": {",": "pair", ")": "sign"},
}


def first_wrong(tokens):
    """The number of the first token that cannot stand there, None if the text is right."""
    state, within = "part", 0
    for number, token in enumerate(tokens):
        if token not in AFTER[state] or (state == "sign" and token == ")" and within == 0):
            return number
        if state == "part" and token == "(":
            within += 1
        if state == "sign" and token == ")":
            within -= 1
        state = AFTER[state][token]
    return None if state == "sign" and within == 0 else len(tokens)


class ParsingCase(unittest.TestCase):
    def assertBad(self, place, text):
        with self.assertRaises(BadText) as caught:
            parse(text)
        self.assertEqual(caught.exception.place, place)

    def assertDepth(self, text):
        with self.assertRaises(NoExpression) as caught:
            parse(text)
        self.assertEqual(caught.exception.word, "depth")

    def assertTokens(self, tokens):
        """Compares what parse tells of tokens, with one blank between two, with the table above."""
        text = " ".join(tokens)
        wrong = first_wrong(tokens)
        if wrong is None:
            self.assertIsInstance(parse(text), Expression)
        elif wrong == len(tokens):
            self.assertBad(len(text), text)
        else:
            self.assertBad(len(" ".join([*tokens[:wrong], ""])), text)


class RightTextsTest(ParsingCase):
    def test_figures(self):
        for text in ("0", "7", "10", "1234567890", "9" * 60, "1" + "0" * 59):
            self.assertEqual(parse(text), figure(int(text)))
            self.assertIs(type(parse(text).parts[0]), int)

    def test_names(self):
        for word in names():
            self.assertEqual(parse(word), name(word))

    def test_sums(self):
        for text, wish in [
            ("sum()", ()), ("sum(x=a)", (("x", ("a",)),)), ("sum(x=a|b|a)", (("x", ("a", "b", "a")),)),
            ("sum(x=a,y=b|c,x=d)", (("x", ("a",)), ("y", ("b", "c")), ("x", ("d",)))),
            ("sum ( x = a | b , y = c )", (("x", ("a", "b")), ("y", ("c",)))),
        ]:
            self.assertEqual(parse(text), Expression("sum", [wish]))

    def test_eachs(self):
        for text, axis, wish in [
            ("each(x)", "x", ()), ("each(x,y=b)", "x", (("y", ("b",)),)), ("each(x, x=a)", "x", (("x", ("a",)),)),
            ("each(x,y=b|c,z=d)", "x", (("y", ("b", "c")), ("z", ("d",)))), (" each ( x ) ", "x", ()),
        ]:
            self.assertEqual(parse(text), Expression("each", [axis, wish]))

    def test_left_to_right(self):
        a, b, c = name("a"), name("b"), name("c")
        for one, other in itertools.product("+-", repeat=2):
            kinds = {"+": "plus", "-": "minus"}
            wanted = Expression(kinds[other], [Expression(kinds[one], [a, b]), c])
            self.assertEqual(parse(f"a {one} b {other} c"), wanted)
        for one, other in itertools.product("*/", repeat=2):
            kinds = {"*": "times", "/": "over"}
            wanted = Expression(kinds[other], [Expression(kinds[one], [a, b]), c])
            self.assertEqual(parse(f"a {one} b {other} c"), wanted)

    def test_which_signs_bind_first(self):
        a, b, c = name("a"), name("b"), name("c")
        times = Expression("times", [b, c])
        self.assertEqual(parse("a + b * c"), Expression("plus", [a, times]))
        self.assertEqual(parse("b * c - a"), Expression("minus", [times, a]))
        self.assertEqual(parse("-b * c"), Expression("times", [Expression("negated", [b]), c]))
        self.assertEqual(parse("b * -c"), Expression("times", [b, Expression("negated", [c])]))
        self.assertEqual(parse("-(b * c)"), Expression("negated", [times]))
        self.assertEqual(parse("a - -b"), Expression("minus", [a, Expression("negated", [b])]))
        self.assertEqual(parse("--a"), Expression("negated", [Expression("negated", [a])]))
        self.assertEqual(parse("a / (b * c)"), Expression("over", [a, times]))

    def test_parentheses_leave_no_trace(self):
        for text in ("(a)", "((a))", " ( ( a ) ) ", "(" * 50 + "a" + ")" * 50):
            self.assertEqual(parse(text), name("a"))
        self.assertEqual(parse("(a * b) + (c)"), parse("a * b + c"))
        self.assertEqual(parse("(sum(x=a))"), parse("sum(x=a)"))

    def test_fifty_parentheses_around_much(self):
        text = "(1 + " * 24 + "a" + ")" * 24
        self.assertEqual(show(parse("(" * 26 + text + ")" * 26)), text[1:-1])
        text = "2 * sum(x=a)"
        for _ in range(49):
            text = "(" + text + ")"
        self.assertEqual(show(parse(text)), "2 * sum(x=a)")

    def test_blanks_anywhere(self):
        tokens = ["-", "a1", "*", "(", "sum", "(", "x", "=", "b", "|", "c", ",", "y", "=", "d", ")", "+",
        "12", "/", "-",
                  "each", "(", "z", ",", "x", "=", "b", ")", ")"]
        wanted = parse("".join(tokens))
        for blank in (" ", "   "):
            self.assertEqual(parse(blank.join(tokens)), wanted)
            for at in range(len(tokens) + 1):
                self.assertEqual(parse("".join(tokens[:at]) + blank + "".join(tokens[at:])), wanted)

    def test_against_pythons_rules(self):
        chance = random.Random(1)
        for _ in range(400):
            text = self.some_text(chance, 4)
            with self.subTest(text):
                self.assertEqual(parse(text), python_tree(text))

    def some_text(self, chance, depth):
        """A text of names, figures, signs and parentheses."""
        form = chance.randrange(6) if depth > 0 else 0
        if form < 2:
            return chance.choice(["a", "b", "x1", "7", "0", "23"])
        if form == 2:
            return "-" + self.some_text(chance, depth - 1)
        if form == 3:
            return "(" + self.some_text(chance, depth - 1) + ")"
        sign = chance.choice(["+", "-", "*", "/", " + ", " - ", " * ", " / "])
        return self.some_text(chance, depth - 1) + sign + self.some_text(chance, depth - 1)


class WrongTextsTest(ParsingCase):
    def test_no_strings(self):
        for other in not_strings():
            with self.subTest(repr(other)):
                self.assertBad(-1, other)
        self.assertBad(-1, b"a")

    def test_texts_that_end_too_early(self):
        for text in [
            "", " ", "    ", "a +", "a + ", "-", "- -", "(", "(a", "((a)", "a *", "a * (", "sum", "sum(", "sum(x",
            "sum(x=", "sum(x=a", "sum(x=a|", "sum(x=a,", "each", "each(", "each(x", "each(x,", "each(x,y",
            "each(x,y=", "each(x,y=b", "(sum(x=a)", "a - (b", "sum(x=a|b ,  ",
        ]:
            with self.subTest(text):
                self.assertBad(len(text), text)

    def test_places(self):
        for place, text in [
            (0, ")"), (0, "+"), (0, "* a"), (0, "="), (0, "|"), (0, ","), (1, " /"), (2, "a b"), (2, "a 1"),
            (2, "1 a"), (2, "1 2"), (1, "a)"), (3, "(a))"), (3, "a +* b"), (4, "a + ) b"), (1, "a,b"), (1, "a=b"),
            (1, "a|b"), (1, "()"), (2, "a ()"), (1, "a(b)"), (2, "(a,b)"), (4, "sum a"), (3, "sum+1"),
            (4, "sum(1)"), (4, "sum(,)"), (4, "sum(=a)"), (5, "sum(a)"), (6, "sum(a=)"), (6, "sum(a=1)"),
            (7, "sum(a=b=c)"), (8, "sum(a=b|)"), (8, "sum(a=b,)"), (7, "sum(a=b;)"), (7, "sum(a=b+c)"),
            (8, "sum(a=b c)"), (4, "sum((a))"), (4, "sum(sum=a)"), (6, "sum(a=each)"), (8, "sum(a=b|sum)"),
            (9, "sum(kind=) + 1"), (8, "sum(a=b,each=c)"), (5, "each()"), (5, "each(1)"), (5, "each(sum)"),
            (5, "each(each)"), (5, "each(,x=a)"), (6, "each(x=a)"), (7, "each(x,)"), (8, "each(x,y)"),
            (11, "each(x,y=b,)"), (6, "each(x|y)"), (7, "each(x y)"), (5, "each x"), (7, "each(x,sum=a)"),
            (5, "sum()sum()"), (5, "sum()()"), (7, "each(x)a"), (2, "- )"), (4, "a - * b"), (6, "a - - * b"),
        ]:
            with self.subTest(text):
                self.assertBad(place, text)

    def test_runs_that_are_no_tokens(self):
        for run in [
            "1a", "2x", "12ab", "00", "01", "007", "0a", "1" * 61, "9" * 5000, "abcdefghi", "a12345678", "a" * 500,
            "1sum", "sum123456", "0" * 60,
        ]:
            with self.subTest(run[:70]):
                self.assertBad(0, run)
                self.assertBad(4, "a + " + run)
                self.assertBad(2, "a " + run + " b")
                self.assertBad(4, "sum(" + run + "=a)")
                self.assertBad(6, "sum(x=" + run + ")")
                self.assertBad(5, "each(" + run + ")")
                self.assertBad(1, "(" + run + " + 1) +")

    def test_a_wrong_token_behind_another_one(self):
        self.assertBad(2, "a b +")
        self.assertBad(2, "a 2x ?")
        self.assertBad(0, "2x a ?")
        self.assertBad(0, ") 2x")
        self.assertBad(1, "(* 2x")

    def test_names_of_eight_and_nine_characters(self):
        self.assertEqual(parse("abcdefgh"), name("abcdefgh"))
        self.assertBad(0, "abcdefghi")
        self.assertEqual(parse("sum(abcdefgh=a2345678)"), Expression("sum", [[("abcdefgh", ["a2345678"])]]))
        self.assertBad(13, "sum(abcdefgh=a23456789)")

    def test_figures_of_sixty_and_more_digits(self):
        self.assertEqual(parse("1" * 60).parts, (int("1" * 60),))
        self.assertBad(0, "1" * 61)
        self.assertBad(4, "a * " + "9" * 61)

    def test_characters_that_belong_to_no_token(self):
        for sign in "ABZ!\"#$%&'.:;<>?@[\\]^_`{}~\t\n":
            with self.subTest(sign):
                self.assertBad(0, sign)
                self.assertBad(0, sign + "a")
                self.assertBad(1, "a" + sign)
                self.assertBad(3, "a +" + sign)
                self.assertBad(2, "a " + sign + " + 1")
                self.assertBad(4, "sum(" + sign + ")")
                self.assertBad(1, "(" + sign)

    def test_a_run_ends_at_a_character_of_no_token(self):
        self.assertBad(1, "aB")
        self.assertBad(3, "abcD")
        self.assertBad(2, "12.5")
        self.assertBad(3, "red_1")
        self.assertBad(0, "Red")

    def test_all_rows_of_up_to_four_tokens(self):
        for many in range(5):
            for tokens in itertools.product(TOKENS, repeat=many):
                self.assertTokens(list(tokens))

    def test_longer_rows_of_tokens(self):
        chance = random.Random(2)
        for _ in range(6000):
            self.assertTokens(self.some_row(chance))

    def some_row(self, chance):
        """A row of tokens that is right for long, then perhaps wrong."""
        tokens, state, within = [], "part", 0
        for _ in range(chance.randrange(4, 24)):
            if chance.randrange(12) == 0:
                tokens.append(chance.choice(TOKENS))
                return tokens
            token = chance.choice(sorted(AFTER[state]))
            if (state, token) == ("sign", ")"):
                if within == 0:
                    continue
                within -= 1
            if (state, token) == ("part", "("):
                within += 1
            state = AFTER[state][token]
            tokens.append(token)
        if state == "sign" and chance.randrange(2) == 0:
            tokens.extend([")"] * within)
        return tokens


class DepthTest(ParsingCase):
    def test_twenty_five_levels(self):
        for text in ["-" * 24 + "a", "a" + " + a" * 24, "a" + " * a" * 24, "(1 - " * 24 + "a" + ")" * 24]:
            self.assertIsInstance(parse(text), Expression)
            self.assertEqual(parse(show(parse(text))), parse(text))

    def test_twenty_six_levels(self):
        for text in [
            "-" * 25 + "a", "a" + " + a" * 25, "a" + " / a" * 25, "(1 - " * 25 + "a" + ")" * 25, "-" * 25 + "sum()",
            "1 + -(" + "-" * 23 + "a) * 2", "(" + "-" * 25 + "a) + b",
        ]:
            self.assertDepth(text)

    def test_trees_that_are_much_too_deep(self):
        self.assertDepth("-" * 3000 + "a")
        self.assertDepth("- " * 3000 + "a")
        self.assertDepth("a" + " + a" * 3000)
        self.assertDepth("a" + " * a" * 3000)

    def test_a_wrong_text_goes_ahead(self):
        for text, place in [
            ("-" * 30 + "a b", 32), ("-" * 3000, 3000), ("a" + " + a" * 30 + " +", 123), ("-" * 30 + "a)", 31),
            ("(" + "-" * 30 + "a", 32), ("(" + "-" * 30 + "a) + ?", 36), ("a" + "*a" * 40 + "=", 81),
        ]:
            self.assertBad(place, text)


class ShowTest(unittest.TestCase):
    def test_texts(self):
        for text, wanted in [
            ("7", "7"), ("a", "a"), ("sum( )", "sum()"), ("sum(x=a)", "sum(x=a)"),
            ("sum( x = a|b , y=c )", "sum(x=a|b, y=c)"), ("each( x )", "each(x)"),
            ("each(x,y=b|c,z=d)", "each(x, y=b|c, z=d)"), ("a+b", "a + b"), ("a-b", "a - b"), ("a*b", "a * b"),
            ("a/b", "a / b"), ("- a", "-a"), ("- - a", "--a"), ("a- -b", "a - -b"), ("-a+-b", "-a + -b"),
            ("-sum()", "-sum()"), ("(((a)))", "a"),
            ("2*( sum(kind=red|blue) -  -a)/3", "2 * (sum(kind=red|blue) - -a) / 3"),
        ]:
            self.assertEqual(show(parse(text)), wanted)

    def test_parentheses_that_are_needed(self):
        for text in [
            "(a + b) * c", "(a - b) * c", "c * (a + b)", "c * (a - b)", "(a + b) / c", "(a - b) / c", "c / (a + b)",
            "c / (a - b)", "-(a + b)", "-(a - b)", "a + (b + c)", "a + (b - c)", "a - (b + c)", "a - (b - c)",
            "a * (b * c)", "a * (b / c)", "a / (b * c)", "a / (b / c)", "-(a * b)", "-(a / b)", "--(a * b)",
            "-(a + b) * c", "a - -(b - c)", "(a + b) * (c + d) / (e - f)", "-(-a + b)", "a * -(b * c)",
            "(a + (b + c)) * (d * (e / f))",
        ]:
            self.assertEqual(show(parse(text)), text)

    def test_parentheses_that_are_not_needed(self):
        for text, wanted in [
            ("(a + b) + c", "a + b + c"), ("(a + b) - c", "a + b - c"), ("(a - b) - c", "a - b - c"),
            ("(a * b) * c", "a * b * c"), ("(a / b) / c", "a / b / c"), ("(a * b) / c", "a * b / c"),
            ("(a * b) + c", "a * b + c"), ("a + (b * c)", "a + b * c"), ("a - (b / c)", "a - b / c"),
            ("(a / b) - c", "a / b - c"), ("(-a) * b", "-a * b"), ("a * (-b)", "a * -b"), ("a / (-b)", "a / -b"),
            ("(-a) + b", "-a + b"), ("a - (-b)", "a - -b"), ("-(-a)", "--a"), ("-(sum(x=a))", "-sum(x=a)"),
            ("a * (sum())", "a * sum()"), ("(each(x)) / (2)", "each(x) / 2"), ("-(7)", "-7"), ("a + (b)", "a + b"),
        ]:
            self.assertEqual(show(parse(text)), wanted)

    def trees(self, depth):
        """All trees of names that are at most so deep."""
        if depth == 1:
            return [name("a")]
        parts = self.trees(depth - 1)
        found = [name("a")] + [Expression("negated", [part]) for part in parts]
        for kind in BINARY.values():
            found.extend(Expression(kind, [one, other]) for one in parts for other in parts)
        return found

    def test_parsing_what_is_shown(self):
        for tree in self.trees(3):
            self.assertEqual(parse(show(tree)), tree)

    def test_no_parentheses_can_be_left_out(self):
        for tree in self.trees(3):
            text = show(tree)
            opened = []
            for at, sign in enumerate(text):
                if sign == "(":
                    opened.append(at)
                elif sign == ")":
                    start = opened.pop()
                    shorter = text[:start] + text[start + 1:at] + text[at + 1:]
                    self.assertFalse(parse(shorter) == tree, text)

    def test_blanks(self):
        for tree in self.trees(3):
            text = show(tree)
            for sign in "+*/":
                self.assertEqual(text.count(sign), text.count(f" {sign} "))
            self.assertNotIn("  ", text)
            self.assertNotIn("( ", text)
            self.assertNotIn(" )", text)

    def test_built_trees(self):
        wish = [("kind", ["red", "red"]), ("kind", ["blue"])]
        for tree, text in [
            (Expression("sum", [wish]), "sum(kind=red|red, kind=blue)"),
            (Expression("each", ["kind", wish]), "each(kind, kind=red|red, kind=blue)"),
            (Expression("each", ["kind", []]), "each(kind)"), (figure(0), "0"), (figure(10 ** 60 - 1), "9" * 60),
            (figure(10 ** 70), "1" + "0" * 70),
            (Expression("minus", [figure(1), Expression("negated", [figure(2)])]), "1 - -2"),
        ]:
            self.assertEqual(show(tree), text)
            if len(text) < 61:
                self.assertEqual(parse(text), tree)

    def test_deep_trees(self):
        for sides in (0, 1):
            for kind in BINARY.values():
                tree = name("a")
                for _ in range(24):
                    tree = Expression(kind, [tree, name("b")] if sides == 0 else [name("b"), tree])
                self.assertEqual(parse(show(tree)), tree)


if __name__ == "__main__":
    unittest.main()
