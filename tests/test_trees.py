import unittest

from tests.others import names, not_integers, not_names, not_sequences, not_strings
from toldwithin.errors import NoExpression
from toldwithin.trees import Expression

A = Expression("name", ["a"])
ONE = Expression("figure", [1])
BINARY = ["plus", "minus", "times", "over"]
KINDS = ["figure", "name", "sum", "each", "negated", *BINARY]


def chain(depth, kind="negated", side=0):
    """A tree that is so deep, deeper on one side."""
    found = A
    for _ in range(depth - 1):
        parts = [found] if kind == "negated" else [found, ONE] if side == 0 else [ONE, found]
        found = Expression(kind, parts)
    return found


class ExpressionCase(unittest.TestCase):
    def assertWord(self, word, kind, parts):
        with self.assertRaises(NoExpression) as caught:
            Expression(kind, parts)
        self.assertEqual(caught.exception.word, word)


class RightPartsTest(ExpressionCase):
    def assertKept(self, kind, parts, wanted):
        for told in (list(parts), tuple(parts)):
            found = Expression(kind, told)
            self.assertEqual(found.kind, kind)
            self.assertEqual(found.parts, wanted)
            self.assertIs(type(found.parts), tuple)

    def test_figures(self):
        for figure in (0, 1, 12, 10 ** 60, 10 ** 999):
            self.assertKept("figure", [figure], (figure,))
            self.assertIs(type(Expression("figure", [figure]).parts[0]), int)

    def test_names(self):
        for name in names():
            self.assertKept("name", [name], (name,))

    def test_sums(self):
        self.assertKept("sum", [[]], ((),))
        self.assertKept("sum", [()], ((),))
        self.assertKept("sum", [[["kind", ["red", "blue"]]]], ((("kind", ("red", "blue")),),))
        wish = (("kind", ("red",)), ("kind", ("red", "red")), ("x", ("abcdefgh",)))
        self.assertKept("sum", [wish], (wish,))
        self.assertKept("sum", [[list(pair) for pair in wish]], (wish,))
        self.assertKept("sum", [[[axis, list(members)] for axis, members in wish]], (wish,))

    def test_wishes_are_kept_as_tuples(self):
        for found in (Expression("sum", [[["x", ["a"]]]]).parts[0], Expression("each", ["y", [["x", ["a"]]]]).parts[1]):
            self.assertIs(type(found), tuple)
            self.assertIs(type(found[0]), tuple)
            self.assertIs(type(found[0][1]), tuple)

    def test_eachs(self):
        self.assertKept("each", ["kind", []], ("kind", ()))
        self.assertKept("each", ["kind", [["x", ["a"]], ("kind", ("b", "b"))]],
                        ("kind", (("x", ("a",)), ("kind", ("b", "b")))))

    def test_two_expressions(self):
        for kind in BINARY:
            self.assertKept(kind, [A, ONE], (A, ONE))
            self.assertKept(kind, [A, A], (A, A))

    def test_negated(self):
        self.assertKept("negated", [A], (A,))

    def test_what_was_passed_may_change(self):
        members = ["red"]
        pair = ["kind", members]
        wish = [pair]
        parts = [wish]
        own = ["year", wish]
        found, each = Expression("sum", parts), Expression("each", own)
        self.assertEqual((parts, own), ([[["kind", ["red"]]]], ["year", [["kind", ["red"]]]]))
        members.append("blue")
        pair[0] = "x"
        wish.append(("y", ["b"]))
        parts.clear()
        own[0] = "z"
        self.assertEqual(found.parts, ((("kind", ("red",)),),))
        self.assertEqual(each.parts, ("year", (("kind", ("red",)),)))
        both = [A, ONE]
        plus = Expression("plus", both)
        both[0] = ONE
        self.assertEqual(plus.parts, (A, ONE))


class WrongTest(ExpressionCase):
    def test_no_kind(self):
        for other in [*not_strings(), "", "Plus", "plus ", "sums", "divide", "figures", "a", "+", "negate", "root"]:
            for parts in ([], [1], [A, A], None):
                with self.subTest(repr(other)):
                    self.assertWord("kind", other, parts)

    def test_parts_are_no_sequence(self):
        for kind in KINDS:
            for other in not_sequences():
                with self.subTest((kind, repr(other))):
                    self.assertWord("parts", kind, other)

    def test_too_few_and_too_many_parts(self):
        right = {"figure": [1], "name": ["a"], "sum": [[]], "each": ["a", []], "negated": [A]}
        for kind in BINARY:
            right[kind] = [A, A]
        for kind, parts in right.items():
            with self.subTest(kind):
                Expression(kind, parts)
                self.assertWord("parts", kind, [])
                self.assertWord("parts", kind, parts[:-1])
                self.assertWord("parts", kind, [*parts, parts[0]])
                self.assertWord("parts", kind, [*parts, parts[-1]])
                self.assertWord("parts", kind, [parts])

    def test_figures_that_are_none(self):
        for other in [*not_integers(), -1, -10 ** 30, A]:
            with self.subTest(repr(other)):
                self.assertWord("parts", "figure", [other])

    def test_names_that_are_none(self):
        for other in not_names():
            with self.subTest(repr(other)):
                self.assertWord("parts", "name", [other])
                self.assertWord("parts", "each", [other, []])

    def wrong_wishes(self):
        found = list(not_sequences())
        for pair in [*not_sequences(), [], ["x"], ("x", ["a"], ["a"]), "xa"]:
            found.extend([[pair], [("y", ["b"]), pair]])
        for members in [*not_sequences(), [], ()]:
            found.extend([[("x", members)], (("y", ["b"]), ("x", members))])
        for name in not_names():
            found.extend([[(name, ["a"])], [("x", [name])], [("x", ["a", name])], [("y", ["b"]), (name, ["a"])]])
        return found

    def test_wishes_that_are_none(self):
        for wish in self.wrong_wishes():
            with self.subTest(repr(wish)):
                self.assertWord("parts", "sum", [wish])
                self.assertWord("parts", "each", ["z", wish])

    def test_expressions_that_are_none(self):
        wrong = [other for other in [*not_strings(), "a", 1, ("name", ("a",))] if not isinstance(other, Expression)]
        for other in wrong:
            with self.subTest(repr(other)):
                self.assertWord("parts", "negated", [other])
                for kind in BINARY:
                    self.assertWord("parts", kind, [other, A])
                    self.assertWord("parts", kind, [A, other])

    def test_parts_of_another_kind(self):
        self.assertWord("parts", "figure", ["a"])
        self.assertWord("parts", "name", [1])
        self.assertWord("parts", "sum", ["a", []])
        self.assertWord("parts", "each", [[], "a"])
        self.assertWord("parts", "each", [[]])
        self.assertWord("parts", "negated", [A, A])
        self.assertWord("parts", "plus", [A])


class DepthTest(ExpressionCase):
    def test_twenty_five_levels(self):
        self.assertEqual(chain(25).kind, "negated")
        for kind in BINARY:
            for side in (0, 1):
                self.assertEqual(chain(25, kind, side).kind, kind)
        self.assertEqual(Expression("plus", [chain(24), chain(24)]).kind, "plus")

    def test_twenty_six_levels(self):
        for kind in ["negated", *BINARY]:
            for side in (0, 1):
                deep = chain(25, kind, side)
                self.assertWord("depth", "negated", [deep])
                for outer in BINARY:
                    self.assertWord("depth", outer, [deep, A])
                    self.assertWord("depth", outer, [A, deep])
                    self.assertWord("depth", outer, [deep, deep])

    def test_leaves_of_all_kinds_are_one_deep(self):
        for leaf in (ONE, A, Expression("sum", [[("x", ["a"])]]), Expression("each", ["x", [("y", ["b", "c"])]])):
            found = leaf
            for _ in range(24):
                found = Expression("negated", [found])
            self.assertWord("depth", "negated", [found])

    def test_parts_go_ahead_of_depth(self):
        deep = chain(25)
        self.assertWord("parts", "plus", [deep, None])
        self.assertWord("parts", "plus", [deep])
        self.assertWord("parts", "negated", [deep, deep])
        self.assertWord("kind", "plusses", [deep, deep])


class EqualityTest(unittest.TestCase):
    def test_equal(self):
        for kind, one, two in [
            ("figure", [3], (3,)), ("name", ["a"], ("a",)), ("sum", [[("x", ["a"])]], ((["x", ("a",)],),)),
            ("each", ["y", []], ("y", ())), ("plus", [A, ONE], (Expression("name", "a".split()), ONE)),
            ("negated", [A], (A,)),
        ]:
            self.assertTrue(Expression(kind, one) == Expression(kind, two))
            self.assertFalse(Expression(kind, one) != Expression(kind, two))

    def test_unequal(self):
        several = [
            A, ONE, Expression("name", ["b"]), Expression("figure", [2]), Expression("sum", [[]]),
            Expression("sum", [[("x", ["a"])]]), Expression("sum", [[("x", ["a", "a"])]]),
            Expression("sum", [[("x", ["a", "b"])]]), Expression("sum", [[("x", ["b", "a"])]]),
            Expression("each", ["x", []]), Expression("each", ["y", []]), Expression("each", ["x", [("x", ["a"])]]),
            Expression("negated", [A]), Expression("negated", [ONE]),
            *[Expression(kind, parts) for kind in BINARY for parts in ([A, ONE], [ONE, A], [A, A])],
        ]
        for at, one in enumerate(several):
            for place, other in enumerate(several):
                self.assertEqual(one == other, at == place)
                self.assertEqual(one != other, at != place)

    def test_anything_else(self):
        for one in (A, ONE):
            for other in [*not_strings(), "a", 1, one.parts, (one.kind, one.parts)]:
                if isinstance(other, Expression):
                    continue
                with self.subTest(repr(other)):
                    self.assertFalse(one == other)
                    self.assertTrue(one != other)


if __name__ == "__main__":
    unittest.main()
