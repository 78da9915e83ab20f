import unittest

from tests.others import names, not_names, not_sequences, not_strings, words_that_are_no_names
from toldwithin.errors import NoCell, NoGrid, NoWish
from toldwithin.grids import Grid

YEARS = ("year", ("a", "b"))
KINDS = ("kind", ("red", "blue"))


def members_of(many):
    return ["m" + str(number) for number in range(many)]


def grid_of(*sizes):
    return Grid([("axis" + str(number), members_of(size)) for number, size in enumerate(sizes)])


class MakingTest(unittest.TestCase):
    def assertWord(self, word, axes):
        with self.assertRaises(NoGrid) as caught:
            Grid(axes)
        self.assertEqual(caught.exception.word, word)

    def test_the_fields(self):
        grid = Grid([YEARS, KINDS])
        self.assertEqual(grid.axes, (YEARS, KINDS))
        self.assertEqual(grid.cells, (("a", "red"), ("a", "blue"), ("b", "red"), ("b", "blue")))
        self.assertEqual(grid.size, 4)

    def test_lists_and_tuples_alike(self):
        lists = Grid([["year", ["a", "b"]], ["kind", ["red", "blue"]]])
        tuples = Grid((YEARS, KINDS))
        mixed = Grid(([ "year", ("a", "b")], ("kind", ["red", "blue"])))
        for grid in (lists, tuples, mixed):
            self.assertEqual(grid.axes, (YEARS, KINDS))
            self.assertIs(type(grid.axes), tuple)
            self.assertEqual({type(axis) for axis in grid.axes}, {tuple})
            self.assertEqual({type(members) for _, members in grid.axes}, {tuple})
            self.assertIs(type(grid.cells), tuple)
            self.assertEqual({type(cell) for cell in grid.cells}, {tuple})

    def test_the_last_axis_changes_first(self):
        grid = Grid([("x", ["p", "q"]), ("y", ["r"]), ("z", ["t", "s", "u"])])
        self.assertEqual(grid.cells, (
            ("p", "r", "t"), ("p", "r", "s"), ("p", "r", "u"),
            ("q", "r", "t"), ("q", "r", "s"), ("q", "r", "u"),
        ))
        self.assertEqual(grid.size, 6)

    def test_three_axes_of_two(self):
        grid = Grid([("x", ["a", "b"]), ("y", ["c", "d"]), ("z", ["e", "f"])])
        self.assertEqual("".join("".join(cell) for cell in grid.cells), "aceacfadeadfbcebcfbdebdf")

    def test_one_cell(self):
        grid = Grid([("kind", ["red"])])
        self.assertEqual((grid.cells, grid.size), ((("red",),), 1))

    def test_two_axes_may_share_members_and_names_of_axes_may_be_members(self):
        grid = Grid([("a", ["a", "b"]), ("b", ["b", "a"])])
        self.assertEqual(grid.cells, (("a", "b"), ("a", "a"), ("b", "b"), ("b", "a")))

    def test_how_many_axes(self):
        for many in (1, 2, 3):
            self.assertEqual(len(grid_of(*[1] * many).axes), many)
        for many in (0, 4, 5):
            self.assertWord("axes", [("axis" + str(number), ["m"]) for number in range(many)])

    def test_axes_is_no_sequence(self):
        for other in not_sequences():
            with self.subTest(repr(other)):
                self.assertWord("axes", other)

    def test_a_pair_is_none(self):
        for other in [*not_sequences(), [], ["x"], ("x", ["m"], ["m"]), ["x", ["m"], None], "xm"]:
            with self.subTest(repr(other)):
                self.assertWord("axes", [other])
                self.assertWord("axes", [YEARS, other])
                self.assertWord("axes", [other, YEARS])

    def test_names(self):
        for name in names():
            self.assertEqual(Grid([(name, ["m"])]).axes, ((name, ("m",)),))
            self.assertEqual(Grid([("m", [name])]).axes, (("m", (name,)),))

    def test_a_name_is_none(self):
        for other in not_names():
            with self.subTest(repr(other)):
                self.assertWord("name", [(other, ["m"])])
                self.assertWord("name", [YEARS, (other, ["m"])])
                self.assertWord("members", [("x", [other])])
                self.assertWord("members", [("x", ["m", other])])
                self.assertWord("members", [YEARS, ("x", [other, "m"])])

    def test_two_axes_have_one_name(self):
        self.assertWord("name", [YEARS, KINDS, ("year", ["m"])])
        self.assertWord("name", [("x", ["m"]), ("x", ["n"])])

    def test_members_that_are_none(self):
        for other in [*not_sequences(), [], (), ["a", "a"], ("a", "b", "a"), members_of(5), [["a"]], [None]]:
            with self.subTest(repr(other)):
                self.assertWord("members", [("x", other)])
                self.assertWord("members", [YEARS, ("x", other)])
                self.assertWord("members", [("x", other), YEARS])

    def test_how_many_members(self):
        for many in (1, 2, 3, 4):
            self.assertEqual(grid_of(many).size, many)

    def test_how_many_cells(self):
        for sizes in [(4, 2), (2, 4), (2, 2, 2), (4, 1, 2), (1, 2, 4), (4,), (3, 2), (1, 1, 1)]:
            grid = grid_of(*sizes)
            self.assertEqual(len(grid.cells), grid.size)
        self.assertEqual([grid_of(4, 2).size, grid_of(2, 2, 2).size], [8, 8])
        for sizes in [(3, 3), (4, 3), (3, 4), (4, 4), (3, 3, 1), (1, 3, 3), (2, 2, 3), (4, 4, 4)]:
            with self.subTest(sizes):
                self.assertWord("cells", [("axis" + str(at), members_of(size)) for at, size in enumerate(sizes)])

    def test_which_word_goes_first_over_all_axes(self):
        pair, name, members = ("x",), ("1", ["m"]), ("x", ["m", "m"])
        wide = [("v", members_of(4)), ("w", members_of(4))]
        for first, second in [(pair, name), (name, pair), (pair, members), (members, pair)]:
            self.assertWord("axes", [first, second])
        for first, second in [(name, members), (members, name)]:
            self.assertWord("name", [first, second])
        self.assertWord("axes", [("1", ["m", "m"]), pair])
        self.assertWord("name", [("1", ["m", "m"])])
        self.assertWord("name", [("x", []), ("x", ["m"])])
        self.assertWord("name", [("x", 5), ("y", None), ("x", ["m"])])
        self.assertWord("axes", [*wide, pair])
        self.assertWord("name", [*wide, name])
        self.assertWord("name", [*wide, ("w", ["m"])])
        self.assertWord("members", [*wide, members])
        self.assertWord("members", [members, *wide])
        self.assertWord("axes", [name, members, YEARS, KINDS])
        self.assertWord("axes", [*wide, YEARS, KINDS])

    def test_what_was_passed_stays_as_it_was_and_may_change(self):
        members = ["a", "b"]
        pair = ["x", members]
        axes = [pair, ("y", ["c"])]
        grid = Grid(axes)
        self.assertEqual(axes, [["x", ["a", "b"]], ("y", ["c"])])
        members.append("d")
        pair[0] = "z"
        axes.clear()
        self.assertEqual(grid.axes, (("x", ("a", "b")), ("y", ("c",))))
        self.assertEqual((grid.cells, grid.size), ((("a", "c"), ("b", "c")), 2))
        self.assertEqual(grid.region([("x", ["b"])]), (1,))


class EqualityTest(unittest.TestCase):
    def test_equal_fields(self):
        self.assertTrue(Grid([YEARS, KINDS]) == Grid([["year", ["a", "b"]], ["kind", ["red", "blue"]]]))
        self.assertFalse(Grid([YEARS, KINDS]) != Grid([YEARS, KINDS]))

    def test_other_fields(self):
        grid = Grid([YEARS, KINDS])
        for axes in [
            [KINDS, YEARS], [YEARS], [("year", ("b", "a")), KINDS], [("years", ("a", "b")), KINDS],
            [YEARS, ("kind", ("red",))], [YEARS, ("kind", ("red", "blues"))], [YEARS, KINDS, ("x", ["m"])],
        ]:
            self.assertFalse(grid == Grid(axes))
            self.assertTrue(grid != Grid(axes))

    def test_anything_else(self):
        grid = Grid([YEARS, KINDS])
        for other in [*not_strings(), "year", grid.axes, grid.cells]:
            with self.subTest(repr(other)):
                self.assertFalse(grid == other)
                self.assertTrue(grid != other)


class PlaceTest(unittest.TestCase):
    def setUp(self):
        self.grid = Grid([YEARS, KINDS])

    def test_each_cell(self):
        for grid in (self.grid, grid_of(2, 2, 2), grid_of(4), grid_of(1)):
            for place, cell in enumerate(grid.cells):
                self.assertEqual(grid.place_of(cell), place)
                self.assertEqual(grid.place_of(list(cell)), place)

    def test_no_cell(self):
        for other in [
            *not_sequences(), [], ["a"], ["red"], ["red", "a"], ["a", "a"], ["red", "red"], ["a", "red", "red"],
            ["a", "red", None], ["c", "red"], ["a", "green"], ["year", "kind"], ["a", None], [None, "red"],
            [["a"], ["red"]], [("a", "red")], "ared", ["A", "red"], ["a ", "red"], [0, 0], [b"a", b"red"], [{}, []],
        ]:
            with self.subTest(repr(other)):
                with self.assertRaises(NoCell):
                    self.grid.place_of(other)

    def test_items_of_any_kind(self):
        for other in not_strings():
            with self.subTest(repr(other)):
                with self.assertRaises(NoCell):
                    self.grid.place_of(["a", other])

    def test_a_string_of_members_is_no_cell(self):
        with self.assertRaises(NoCell):
            Grid([("x", ["a", "b"]), ("y", ["c"])]).place_of("ac")


class RegionTest(unittest.TestCase):
    def setUp(self):
        self.grid = Grid([("x", ["a", "b"]), ("y", ["c", "d"]), ("z", ["e", "f"])])

    def assertWish(self, place, word, wish):
        with self.assertRaises(NoWish) as caught:
            self.grid.region(wish)
        self.assertEqual((caught.exception.place, caught.exception.word), (place, word))

    def test_against_all_cells(self):
        choices = {"x": [("a",), ["b"], ["b", "a"]], "y": [["c"], ("d", "c", "d")], "z": [["f"], ["e"], ("f", "e")]}
        for x in [None, *choices["x"]]:
            for y in [None, *choices["y"]]:
                for z in [None, *choices["z"]]:
                    told = [("x", x), ["y", y], ("z", z)]
                    wish = [pair for pair in told if pair[1] is not None]
                    wanted = tuple(
                        place for place, cell in enumerate(self.grid.cells)
                        if all(pair[1] is None or cell[at] in pair[1] for at, pair in enumerate(told))
                    )
                    self.assertEqual(self.grid.region(wish), wanted)
                    self.assertEqual(self.grid.region(tuple(reversed(wish))), wanted)

    def test_the_empty_wish(self):
        self.assertEqual(self.grid.region([]), tuple(range(8)))
        self.assertEqual(self.grid.region(()), tuple(range(8)))

    def test_it_is_an_ascending_tuple(self):
        found = self.grid.region([("z", ["f", "e", "f"]), ["x", ("b", "b")]])
        self.assertEqual(found, (4, 5, 6, 7))
        self.assertIs(type(found), tuple)

    def test_a_member_twice(self):
        self.assertEqual(self.grid.region([("y", ["d", "d"])]), (2, 3, 6, 7))
        self.assertEqual(self.grid.region([("y", ["d", "c", "d", "c", "d"])]), tuple(range(8)))

    def test_nothing_is_changed(self):
        wish = [["x", ["b"]], ("y", ["d", "d"])]
        self.grid.region(wish)
        self.assertEqual(wish, [["x", ["b"]], ("y", ["d", "d"])])

    def test_no_sequence(self):
        for other in not_sequences():
            with self.subTest(repr(other)):
                self.assertWish(-1, "wish", other)

    def test_a_pair_is_none(self):
        for other in [*not_sequences(), [], ["x"], ("x", ["a"], ["a"]), "xa"]:
            with self.subTest(repr(other)):
                self.assertWish(0, "pair", [other])
                self.assertWish(1, "pair", [("x", ["a"]), other])
                self.assertWish(0, "pair", [other, ("x", ["a"])])

    def test_no_axis(self):
        for other in [*not_strings(), *words_that_are_no_names(), "a", "w", "xx", "X"]:
            with self.subTest(repr(other)):
                self.assertWish(0, "axis", [(other, ["a"])])
                self.assertWish(2, "axis", [("x", ["a"]), ("y", ["c"]), (other, ["a"])])

    def test_an_axis_twice(self):
        self.assertWish(1, "axis", [("x", ["a"]), ("x", ["b"])])
        self.assertWish(1, "axis", [("x", ["a"]), ("x", ["a"])])
        self.assertWish(2, "axis", [("x", ["a"]), ("y", ["c"]), ("x", ["a"])])
        self.assertWish(3, "axis", [("x", ["a"]), ("y", ["c"]), ("z", ["e"]), ("z", ["e"])])

    def test_no_members(self):
        for other in [*not_sequences(), [], (), "a", ["c"], ["a", "c"], ["a", None], [["a"]], ["A"], ["x"], ["a", ""]]:
            with self.subTest(repr(other)):
                self.assertWish(0, "members", [("x", other)])
                self.assertWish(1, "members", [("y", ["c"]), ("x", other)])
        for other in not_names():
            with self.subTest(repr(other)):
                self.assertWish(0, "members", [("x", ["a", other])])

    def test_which_one_goes_first(self):
        self.assertWish(0, "axis", [("w", [])])
        self.assertWish(0, "axis", [(None, None)])
        self.assertWish(1, "axis", [("x", ["a"]), ("x", [])])
        self.assertWish(0, "members", [("x", []), ("w", ["a"])])
        self.assertWish(0, "members", [("x", ["c"]), ("x", ["a"]), 5])
        self.assertWish(0, "axis", [("w", ["a"]), 5])
        self.assertWish(0, "pair", [5, ("w", ["a"]), ("x", [])])
        self.assertWish(1, "members", [("x", ["a"]), ("y", ["a"]), ("x", ["a"])])


if __name__ == "__main__":
    unittest.main()
