"""The desk: [46], [47]."""

import unittest

from tests.others import not_strings, own_things, words_that_are_no_names
from toldwithin.books import Book
from toldwithin.desk import Desk
from toldwithin.entries import Exact, Planned, Reading, Rough
from toldwithin.errors import (
    BadLine, BadText, Clash, Conflicted, NoCount, NoEntry, NoExpression, NoLine, NoMeaning, NoName, NoRedo, NoUndo, SameName,
    SameTime, TooMany,
)
from toldwithin.grids import Grid
from toldwithin.questions import Question
from toldwithin.ratios import Ratio
from toldwithin.texts import book_text

GRID = Grid([("kind", ["red", "blue"]), ("year", ["a", "b"])])
SMALL = Grid([("kind", ["red", "blue"])])
RED = Question(SMALL, (1, 0))
EXAMPLE = ["let all sum()", "read 1 x 10 1 all", "branch old", "rough 2 leak 0 -2 1", "read 4 eye 3 2 sum(kind=red)"]
CLASH = ["read 1 x 5 1 sum(kind=red)", "read 2 y 9 1 sum(kind=red)"]
PROBES = ["book", "names", "branches", "ask each(kind)", "error each(kind)", "ask @2 sum()"]


def desk_of(*lines, grid=SMALL):
    desk = Desk(grid)
    for line in lines:
        desk.tell(line)
    return desk


def names_of(desk):
    names = desk.tell("names")
    return [] if names == "none" else names.split(" ")


def seen(desk):
    """All that a desk answers about its state."""
    answers = []
    for line in [*PROBES, *["show " + name for name in names_of(desk)], *["ask " + name for name in names_of(desk)]]:
        try:
            answers.append(desk.tell(line))
        except Clash:
            answers.append("clash")
    return desk.book, answers


def steps_of(desk, word):
    """What is seen behind each step of undo, or of redo, as far as they go."""
    found = []
    while True:
        try:
            desk.tell(word)
        except (NoUndo, NoRedo):
            return found
        found.append(seen(desk))


def reach(desk, word):
    """The same on a desk that is told the journal of another one, which stays as it is."""
    other = desk_of(*desk.journal(), grid=desk.book.grid)
    return [seen(other), *steps_of(other, word)]


def whole(desk):
    """All of a desk, also what can be undone and done again, as far as its lines tell it."""
    return seen(desk), reach(desk, "undo"), reach(desk, "redo"), desk.journal()


class DeskCase(unittest.TestCase):
    def assertRefused(self, desk, line, error, **fields):
        """The line raises this error, and nothing changes."""
        before, journal = seen(desk), desk.journal()
        with self.subTest(repr(line)):
            with self.assertRaises(error) as caught:
                desk.tell(line)
            self.assertIs(type(caught.exception), error)
            for name, wanted in fields.items():
                self.assertEqual(getattr(caught.exception, name), wanted)
            self.assertEqual((seen(desk), desk.journal()), (before, journal))

    def assertTold(self, desk, line, answer):
        found = desk.tell(line)
        self.assertIs(type(found), str)
        self.assertEqual(found, answer)


class FormsTest(DeskCase):
    def test_no_strings(self):
        for other in [*not_strings(), *own_things()]:
            self.assertRefused(desk_of(), other, NoLine)

    def test_commands(self):
        desk = desk_of(*EXAMPLE)
        for line in ["", " ", "tell", "Book", "BOOK", "books", "boo", "book\n", "\nbook", " book", "undoo", "un do", "@5", "sum()",
                     "Ask sum()", "Read 1 z 10 1 all", "ask\tsum()", "add 1 z 10 1 all", "exit", "help", "1 read x"]:
            self.assertRefused(desk, line, NoLine)

    def test_words_behind_commands_that_take_none(self):
        desk = desk_of(*EXAMPLE)
        for command in ("fold", "trim", "undo", "redo", "needless", "cut", "book", "names", "branches"):
            for line in (f"{command} ", f" {command}", f"{command} x", f"{command} 1", f"{command}  ", f"{command} {command}"):
                self.assertRefused(desk, line, NoLine)

    def test_too_few_and_too_many_words(self):
        desk = desk_of(*EXAMPLE)
        for line in [
            "let", "let ", "let a", "let a ", "read", "read 9", "read 9 z", "read 9 z 1", "read 9 z 1 1", "read 9 z 1 1 ", "plan",
            "plan 9", "plan 9 z", "plan 9 z 1", "plan 9 z 1 ", "exact", "exact 9", "exact 9 z", "exact 9 z ", "exact 9 z 1,2 3",
            "exact 9 z 1,2 ", "rough", "rough 9 z 0 1", "rough 9 z 0 1 ", "rough 9 z 0 1 1 1", "rough 9 z 0 1 1 ", "drop", "drop ",
            "drop x y", "drop x ", "branch", "branch ", "branch new x", "branch new ", "go", "go ", "go old x", "go old ", "merge",
            "merge ", "merge old x", "merge old ", "ask", "ask ", "ask @1", "ask @1 ", "error", "error ", "error @1", "error @1 ",
            "excuses", "excuses ", "excuses 1 1", "excuses 1 ", "show", "show ",
        ]:
            self.assertRefused(desk, line, NoLine)

    def test_two_blanks(self):
        desk = desk_of(*EXAMPLE)
        for line in ["let  a 1", "read  9 z 1 1 all", "read 9  z 1 1 all", "read 9 z  1 1 all", "read 9 z 1  1 all",
                     "plan  9 z 1 all", "plan 9  z 1 all", "plan 9 z  1 all", "exact  9 z 1,2", "exact 9  z 1,2", "exact 9 z  1,2",
                     "rough 9 z 0 1  1", "drop  x", "branch  new", "go  old", "merge  old", "excuses  1"]:
            self.assertRefused(desk, line, NoLine)

    def test_an_expression_has_its_blanks(self):
        desk = desk_of(*EXAMPLE)
        for line in ("ask all", "ask  all", "ask all ", "ask   all  ", "ask @9 all", "ask @9  all ", "ask   ( all )  "):
            self.assertTold(desk, line, "6 to 10")
        for line in ("let a  1", "let b 1 ", "let c   1 + 1  ", "plan 8 p 1  all", "read 9 z 8 1  all "):
            self.assertTold(desk, line, "ok")
        self.assertTold(desk, "names", "a all b c")
        self.assertTold(desk, "show  1+ 1 ", "1 + 1")
        # Blanks alone are a text, but of no expression.
        self.assertRefused(desk, "ask  ", BadText, place=1)
        self.assertRefused(desk, "ask @1  ", BadText, place=1)
        self.assertRefused(desk, "show    ", BadText, place=3)
        self.assertRefused(desk, "ask  @1 all", BadText, place=1)

    def test_integers(self):
        desk = desk_of(*EXAMPLE)
        for word in ["-0", "00", "01", "-01", "+1", "1.0", "1/1", "--1", "-", "a", "x", "0x1", "1_0", "1e3", "\u0661", "@1", "1,"]:
            for line in (f"read {word} z 1 1 all", f"plan {word} z 1 all", f"exact {word} z 1,2", f"rough {word} z 0 1 1",
                         f"rough 9 z {word} 1 1", f"excuses {word}", f"ask @{word} all", f"error @{word} all"):
                self.assertRefused(desk, line, NoLine)
        for line in ("ask @ all", "error @ all", "ask @", "ask @ ", "error @all", "ask @all", "ask @1,2 all", "ask @@1 all"):
            self.assertRefused(desk, line, NoLine)

    def test_numbers(self):
        desk = desk_of(*EXAMPLE)
        for word in ["2/4", "1/1", "-0", "+1", "01", "1/0", "1/-2", "1.5", "a", "-", "/", "1/", "/2", "0/2", "1,2", str(10 ** 60),
                     f"1/{10 ** 60}"]:
            for line in (f"read 9 z {word} 1 all", f"read 9 z 1 {word} all", f"plan 9 z {word} all", f"rough 9 z 0 {word} 1",
                         f"rough 9 z 0 1 {word}"):
                self.assertRefused(desk, line, NoLine)
            if word != "1,2":
                for line in (f"exact 9 z {word},0", f"exact 9 z 0,{word}", f"exact 9 z 0,0,{word}"):
                    self.assertRefused(desk, line, NoLine)
        for word in (",", "1,", ",1", "1,,2", "1;2"):
            self.assertRefused(desk, f"exact 9 z {word}", NoLine)

    def test_all_words_go_ahead_of_the_rest(self):
        desk = desk_of(*EXAMPLE)
        for line in ["read 1 A 1 -0 (", "read 01 x 1 1 (", "read 1 x 1 01 nix", "plan 1 sum 1/1 )", "rough 2 A 9 1 01",
                     "exact 2 A 1,-0,3", "rough 2 leak 01 1 -1", "ask @01 (", "error @x nix"]:
            self.assertRefused(desk, line, NoLine)


class EntriesTest(DeskCase):
    def test_what_is_added(self):
        desk = desk_of("let r sum(kind=red)", "read -3 x -1/2 1/3 2 * r", "plan 7 p 0 r - r", "exact 10 e -1,1/2", "rough 5 d 1 -2 3/2")
        twice = RED * 2
        self.assertEqual(desk.book, Book(SMALL, [
            Reading(-3, "x", twice, Ratio(-1, 2), Ratio(1, 3)), Rough(5, "d", SMALL, 1, -2, Ratio(3, 2)),
            Planned(7, "p", RED - RED, 0), Exact(10, "e", SMALL, (-1, Ratio(1, 2))),
        ]))
        desk.tell("drop x")
        self.assertEqual(desk.book.names(), ["d", "p", "e"])
        far = 10 ** 59
        desk.tell(f"exact -{far} f {far},1/{far}")
        self.assertEqual(desk.book.entries[0], Exact(-far, "f", SMALL, (far, Ratio(1, far))))

    def test_errors_of_read_and_plan_in_their_order(self):
        desk = desk_of(*EXAMPLE)
        for head in ("read 1 A 5 -1", "plan 1 A -1"):
            self.assertRefused(desk, f"{head} (", BadText, place=1)
            self.assertRefused(desk, f"{head} 1 ~ nix", BadText, place=2)
            self.assertRefused(desk, f"{head} {'-' * 30}nix", NoExpression, word="depth")
            self.assertRefused(desk, f"{head} nix", NoMeaning, word="name")
            self.assertRefused(desk, f"{head} sum(hue=red)", NoMeaning, word="axis")
            self.assertRefused(desk, f"{head} sum(kind=green)", NoMeaning, word="member")
            self.assertRefused(desk, f"{head} all * all", NoMeaning, word="kinds")
            self.assertRefused(desk, f"{head} all / 0", NoMeaning, word="zero")
            for text in ("1", "each(kind)", "2 / 3", "-each(kind, kind=red)"):
                word = "axis" if "=" in text else "kinds"
                self.assertRefused(desk, f"{head} {text}", NoMeaning, word=word)
            self.assertRefused(desk, f"{head} all", NoEntry, word="name")
        for head in ("read 1 x 5 -1", "plan 1 x -1/2"):
            self.assertRefused(desk, f"{head} all", NoEntry, word="slip")
        for head in ("read 1 x 5 1", "plan 1 x 1"):
            self.assertRefused(desk, f"{head} all", SameTime, time=1)
        for head in ("read 9 x 5 1", "plan 9 leak 1"):
            self.assertRefused(desk, f"{head} all", SameName, name=head.split(" ")[2])

    def test_errors_of_deeds_in_their_order(self):
        desk = desk_of(*EXAMPLE)
        for name in words_that_are_no_names():
            if name and " " not in name:
                self.assertRefused(desk, f"exact 1 {name} 1,2,3", NoEntry, word="name")
                self.assertRefused(desk, f"rough 1 {name} 2 1 -1", NoEntry, word="name")
        for changes in ("1", "1,2,3", "0,0,0,0"):
            self.assertRefused(desk, f"exact 1 x {changes}", NoEntry, word="changes")
        for place in ("2", "-1", "100"):
            self.assertRefused(desk, f"rough 1 x {place} 1 -1", NoEntry, word="place")
        self.assertRefused(desk, "rough 1 x 1 1 -1", NoEntry, word="bound")
        self.assertRefused(desk, "rough 1 x 1 1 1", SameTime, time=1)
        self.assertRefused(desk, "exact 9 x 1,1", SameName, name="x")
        self.assertRefused(desk, "exact 2 x 1,1", SameTime, time=2)

    def test_too_many(self):
        desk = desk_of(*[f"plan {at} p{at} 1 sum()" for at in range(10)], *[f"rough {at} r{at} 0 0 1" for at in range(10, 14)])
        self.assertRefused(desk, "read 50 x 1 1 sum()", TooMany, most=10)
        self.assertRefused(desk, "rough 50 x 0 1 1", TooMany, most=4)
        for at in range(14, 30):
            desk.tell(f"exact {at} e{at} 0,0")
        self.assertRefused(desk, "exact 50 x 0,0", TooMany, most=30)
        self.assertRefused(desk, "read 50 x 1 1 sum()", TooMany, most=30)
        self.assertRefused(desk, "read 5 x 1 1 sum()", SameTime, time=5)

    def test_drop(self):
        desk = desk_of(*EXAMPLE)
        for word in [*[word for word in words_that_are_no_names() if word and " " not in word], "y", "all", "old", "5", "@"]:
            self.assertRefused(desk, f"drop {word}", NoName, name=word)
        self.assertTold(desk, "drop leak", "ok")
        self.assertRefused(desk, "drop leak", NoName, name="leak")

    def test_an_entry_that_makes_a_clash_is_let(self):
        desk = desk_of(*CLASH)
        self.assertEqual(desk.book.names(), ["x", "y"])
        self.assertRefused(desk, "ask sum()", Clash)


class LetTest(DeskCase):
    def test_its_own_name(self):
        desk = desk_of("let a sum(kind=red)", "let b 2 * a", "let a a + b", "let n 3", "let n n * n - 1", "let l each(kind)")
        self.assertTold(desk, "names", "a b l n")
        desk.tell("read 1 x 6 0 a")
        self.assertEqual(desk.book["x"].question, RED * 3)
        self.assertTold(desk, "ask b", "4 to 4")
        self.assertTold(desk, "ask n", "8")
        self.assertTold(desk, "let l l * n", "ok")
        self.assertTold(desk, "ask l", "16 to 16; endless")

    def test_meanings_stay(self):
        desk = desk_of("let a 1", "let b a + 1", "let a 10", "let c a + b")
        self.assertEqual([desk.tell(f"ask {name}") for name in "abc"], ["10", "2", "12"])
        desk.tell("undo")
        desk.tell("undo")
        self.assertEqual([desk.tell(f"ask {name}") for name in "ab"], ["1", "2"])
        self.assertRefused(desk, "ask c", NoMeaning, word="name")

    def test_names_of_all_branches(self):
        desk = desk_of("branch old", "let a 5", "go old")
        self.assertTold(desk, "names", "a")
        self.assertTold(desk, "ask a", "5")

    def test_errors_in_their_order(self):
        desk = desk_of("let a 1")
        for word in words_that_are_no_names():
            if word and " " not in word:
                self.assertRefused(desk, f"let {word} (", BadText, place=1)
                self.assertRefused(desk, f"let {word} nix", NoMeaning, word="name")
                self.assertRefused(desk, f"let {word} 1 / 0", NoMeaning, word="zero")
                self.assertRefused(desk, f"let {word} sum()", NoEntry, word="name")
        self.assertRefused(desk, "let b b", NoMeaning, word="name")
        self.assertRefused(desk, f"let b {'-' * 25}1", NoExpression, word="depth")
        self.assertTold(desk, f"let b {'-' * 24}1", "ok")

    def test_names_of_entries_and_branches_are_others(self):
        desk = desk_of("let x sum()", "read 1 x 5 1 x", "branch x", "let main x")
        self.assertEqual([desk.tell("ask x"), desk.tell("ask main"), desk.tell("branches")], ["4 to 6", "4 to 6", "main* x"])


class BranchTest(DeskCase):
    def test_branches(self):
        desk = desk_of("exact 1 e 1,1")
        self.assertTold(desk, "branches", "main*")
        self.assertTold(desk, "branch b2", "ok")
        self.assertTold(desk, "branch a", "ok")
        self.assertTold(desk, "branches", "a b2 main*")
        self.assertTold(desk, "exact 2 f 1,1", "ok")
        self.assertTold(desk, "go a", "ok")
        self.assertTold(desk, "branches", "a* b2 main")
        self.assertEqual(desk.book.names(), ["e"])
        desk.tell("drop e")
        desk.tell("go main")
        self.assertEqual(desk.book.names(), ["e", "f"])
        desk.tell("go main")
        self.assertTold(desk, "branches", "a b2 main*")

    def test_errors(self):
        desk = desk_of("branch a")
        for word in [*[word for word in words_that_are_no_names() if word and " " not in word], "a", "main"]:
            self.assertRefused(desk, f"branch {word}", NoEntry, word="name")
        for word in ["b", "sum", "A", "Main", "1"]:
            self.assertRefused(desk, f"go {word}", NoName, name=word)
            self.assertRefused(desk, f"merge {word}", NoName, name=word)
        for name in "bcde":
            desk.tell(f"branch {name}")
        self.assertTold(desk, "branches", "a b c d e main*")
        self.assertRefused(desk, "branch f", TooMany, most=6)
        self.assertRefused(desk, "branch a", NoEntry, word="name")
        self.assertRefused(desk, "branch sum", NoEntry, word="name")

    def test_merge(self):
        desk = desk_of("exact 1 e 1,1", "branch old", "exact 2 f 1,1", "go old", "drop e", "exact 3 g 1,1", "go main")
        self.assertTold(desk, "merge old", "ok")
        self.assertEqual(desk.book.names(), ["f", "g"])
        # Twice: what was merged is the base now, so nothing is dropped again.
        desk.tell("exact 1 e 1,1")
        self.assertTold(desk, "merge old", "ok")
        self.assertEqual(desk.book.names(), ["e", "f", "g"])
        desk.tell("go old")
        self.assertEqual(desk.book.names(), ["g"])
        # Back into the branch: the base of main is still the empty book.
        self.assertTold(desk, "merge main", "ok")
        self.assertEqual(desk.book.names(), ["e", "f", "g"])

    def test_merge_of_the_present_branch(self):
        desk = desk_of("exact 1 e 1,1", "merge main", "exact 2 f 1,1")
        self.assertEqual(desk.book.names(), ["e", "f"])
        desk.tell("branch old")
        desk.tell("go old")
        desk.tell("drop e")
        # The base of main has "e" since it was merged with itself: in main it stays, here it was left out.
        self.assertTold(desk, "merge main", "ok")
        self.assertEqual(desk.book.names(), ["f"])
        self.assertTold(desk, "merge old", "ok")
        self.assertEqual(desk.book.names(), ["f"])

    def test_a_base_behind_a_merge_and_behind_its_undo(self):
        lines = ["exact 1 e 1,1", "branch old", "go old", "exact 3 g 1,1", "go main", "merge old", "drop g"]
        desk = desk_of(*lines)
        # "g" is in the base now: it was dropped here, and is not changed there.
        desk.tell("merge old")
        self.assertEqual(desk.book.names(), ["e"])
        desk = desk_of(*lines[:-1], "undo")
        self.assertEqual(desk.book.names(), ["e"])
        desk.tell("merge old")
        self.assertEqual(desk.book.names(), ["e", "g"])
        desk.tell("undo")
        desk.tell("redo")
        desk.tell("drop g")
        desk.tell("merge old")
        self.assertEqual(desk.book.names(), ["e"])

    def test_conflicts(self):
        start = ["exact 1 e 1,1", "branch old", "go old"]
        desk = desk_of(*start, "drop e", "exact 1 e 2,2", "exact 5 k 1,1", "go main", "drop e", "exact 1 e 3,3", "exact 5 m 1,1")
        self.assertRefused(desk, "merge old", Conflicted, kind="name", what="e")
        desk = desk_of(*start, "exact 5 k 1,1", "exact 6 n 0,0", "go main", "exact 6 m 1,1", "exact 5 o 0,0")
        self.assertRefused(desk, "merge old", Conflicted, kind="time", what=5)
        desk.tell("drop o")
        self.assertRefused(desk, "merge old", Conflicted, kind="time", what=6)
        desk.tell("drop m")
        self.assertTold(desk, "merge old", "ok")

    def test_too_many(self):
        desk = desk_of("branch old", *[f"plan {at} p{at} 1 sum()" for at in range(9)], "go old", "plan 50 q 1 sum()")
        desk.tell("plan 51 r 1 sum()")
        self.assertRefused(desk, "merge main", TooMany, most=10)
        desk.tell("drop r")
        self.assertTold(desk, "merge main", "ok")

    def test_a_merge_that_makes_a_clash_is_let(self):
        desk = desk_of("branch old", CLASH[0], "go old", CLASH[1], "merge main")
        self.assertEqual(desk.book.names(), ["x", "y"])
        self.assertTold(desk, "cut", "x")


class FoldTest(DeskCase):
    def test_fold(self):
        desk = desk_of("exact 1 a 1,0", "exact 2 b 2,3", "plan 3 p 1 sum()", "exact 4 c 1,1", "exact 5 d -1,-1")
        self.assertTold(desk, "fold", "ok")
        self.assertTold(desk, "book", "exact 2 b 3,3; plan 3 p 1,1 1")
        self.assertTold(desk, "fold", "ok")
        self.assertTold(desk_of(*CLASH), "fold", "ok")

    def test_trim(self):
        desk = desk_of("read 1 x 5 1 sum()", "read 2 y 5 1 sum()", "read 3 z 5 2 sum()", "plan 4 p 9 sum()")
        self.assertTold(desk, "trim", "ok")
        self.assertEqual(desk.book.names(), ["x", "p"])
        self.assertTold(desk, "trim", "ok")
        self.assertEqual(desk.book.names(), ["x", "p"])
        self.assertRefused(desk_of(*CLASH), "trim", Clash)

    def test_base_and_other_branches_stay(self):
        desk = desk_of("exact 1 a 1,0", "exact 2 b 2,3", "branch old", "go old", "fold", "go main")
        self.assertEqual(desk.book.names(), ["a", "b"])
        desk.tell("merge old")
        self.assertTold(desk, "book", "exact 2 b 3,3")


class UndoTest(DeskCase):
    def test_each_kind_of_change(self):
        lines = [
            "let r sum(kind=red)", "read 1 x 5 1 r", "plan 2 p 1 r", "exact 3 e 1,1", "exact 4 f 1,1", "rough 5 d 0 0 1", "branch old",
            "drop p", "go old", "read 6 y 6 9 r", "fold", "trim", "let r 2 * r", "go main", "merge old", "merge main", "go main",
            "fold", "trim", "let r r", "drop x",
        ]
        desk = Desk(SMALL)
        states = [seen(desk)]
        for line in lines:
            self.assertTold(desk, line, "ok")
            states.append(seen(desk))
        self.assertEqual(states[-5], states[-4])
        for _ in range(2):
            for state in reversed(states[:-1]):
                self.assertTold(desk, "undo", "ok")
                self.assertEqual(seen(desk), state)
            self.assertRefused(desk, "undo", NoUndo)
            for state in states[1:]:
                self.assertTold(desk, "redo", "ok")
                self.assertEqual(seen(desk), state)
            self.assertRefused(desk, "redo", NoRedo)
        self.assertEqual(len(desk.journal()), 5 * len(lines))

    def test_changes_that_change_nothing_are_changes(self):
        desk = desk_of("exact 1 e 1,1", "go main", "fold", "trim", "merge main", "let a 1", "let a 1")
        for _ in range(6):
            desk.tell("undo")
        self.assertEqual(desk.book.names(), ["e"])
        desk.tell("undo")
        self.assertEqual(desk.book.names(), [])
        self.assertRefused(desk, "undo", NoUndo)

    def test_a_further_change(self):
        desk = desk_of("let a 1", "let b 1", "undo", "let c 1")
        self.assertRefused(desk, "redo", NoRedo)
        self.assertTold(desk, "names", "a c")
        desk = desk_of("let a 1", "let b 1", "undo", "undo", "redo", "go main")
        self.assertRefused(desk, "redo", NoRedo)
        self.assertTold(desk, "names", "a")

    def test_questions_and_errors_forget_nothing(self):
        desk = desk_of("let a 1", "let b 1", "undo", "undo")
        for line in ("book", "names", "ask 1", "show a"):
            desk.tell(line)
        for line in ("nix", "go nix", "let c nix", "drop nix", "undo"):
            with self.assertRaises((NoLine, NoName, NoMeaning, NoUndo)):
                desk.tell(line)
        self.assertEqual([desk.tell("redo"), desk.tell("redo")], ["ok", "ok"])
        self.assertTold(desk, "names", "a b")
        self.assertRefused(Desk(SMALL), "undo", NoUndo)
        self.assertRefused(Desk(SMALL), "redo", NoRedo)


class QuestionsTest(DeskCase):
    def test_ask(self):
        desk = desk_of(*EXAMPLE)
        for line, answer in [
            ("ask all", "6 to 10"), ("ask @1 all", "9 to 11"), ("ask @-5 all", "9 to 11"), ("ask each(kind)", "1 to 5; 1 to 9"),
            ("ask @3 each(kind) - each(kind) * 2", "-5 to -1; -9 to -1"), ("ask 1 / 3", "1/3"), ("ask @99 -7", "-7"),
            ("ask all * 0", "0 to 0"), ("ask all / 3", "2 to 10/3"), ("ask @1 2 * all", "18 to 22"),
            ("ask each(kind, kind=red)", NoMeaning),
        ]:
            if answer is NoMeaning:
                self.assertRefused(desk, line, NoMeaning, word="axis")
            else:
                self.assertTold(desk, line, answer)
        desk.tell("go old")
        self.assertTold(desk, "ask each(kind)", "endless; endless")
        self.assertTold(desk, "ask sum(kind=red)", "endless")

    def test_error(self):
        desk = desk_of(*EXAMPLE)
        for line, answer in [
            ("error sum(kind=blue)", "4"), ("error @1 sum(kind=blue)", "4"), ("error each(kind)", "2; 4"), ("error 5 / 7", "0"),
            ("error @3 -2", "0"), ("error all / 3", "2/3"), ("error @1 all", "1"), ("error all - all", "0"),
        ]:
            self.assertTold(desk, line, answer)
        desk.tell("go old")
        self.assertTold(desk, "error each(kind) * 2", "unbounded; unbounded")
        self.assertTold(desk, "error @7 all - 2 * sum(kind=red)", "unbounded")

    def test_lists_of_longer_axes(self):
        grid = Grid([("kind", ["a", "b", "c"]), ("year", ["x", "y"])])
        desk = desk_of("read 1 x 5 1/2 sum(kind=c)", "read 2 y 1 0 sum(kind=a)", grid=grid)
        self.assertTold(desk, "ask each(kind)", "1 to 1; endless; 9/2 to 11/2")
        self.assertTold(desk, "error each(kind)", "0; unbounded; 1/2")
        self.assertTold(desk, "ask each(year, kind=a|c)", "endless; endless")

    def test_clashes(self):
        desk = desk_of(*CLASH)
        for line in ("ask sum()", "ask each(kind)", "ask @0 sum() * 0", "needless"):
            self.assertRefused(desk, line, Clash)
        self.assertTold(desk, "ask 7", "7")
        self.assertTold(desk, "error sum(kind=red)", "1")
        self.assertTold(desk, "cut", "x")

    def test_errors_of_expressions(self):
        desk = desk_of(*EXAMPLE)
        for command in ("ask", "ask @1", "error", "error @-3"):
            self.assertRefused(desk, f"{command} all +", BadText, place=5)
            self.assertRefused(desk, f"{command} {'-' * 26}nix", NoExpression, word="depth")
            self.assertRefused(desk, f"{command} nix", NoMeaning, word="name")
            self.assertRefused(desk, f"{command} all + 1", NoMeaning, word="kinds")
        self.assertRefused(desk, "ask @1 @2 all", BadText, place=0)

    def test_excuses(self):
        desk = desk_of(*EXAMPLE)
        for count in range(4):
            self.assertTold(desk, f"excuses {count}", "nothing")
        desk = desk_of(*CLASH, "read 3 z 13 1 sum(kind=red)")
        self.assertEqual([desk.tell(f"excuses {count}") for count in range(4)], ["none", "none", "x,y; x,z; y,z", "x,y; x,z; y,z"])
        desk = desk_of(*CLASH, "read 3 z 9 1 sum(kind=red)")
        self.assertEqual([desk.tell(f"excuses {count}") for count in range(4)], ["none", "x", "x; y,z", "x; y,z"])
        for count in ("-1", "4", "100", "-100"):
            self.assertRefused(desk, f"excuses {count}", NoCount)

    def test_needless_and_cut(self):
        desk = desk_of("read 3 x 5 1 sum()", "read 2 y 5 1 sum()", "read 4 z 5 1 sum(kind=red)")
        self.assertEqual([desk.tell("needless"), desk.tell("cut")], ["y x", "none"])
        self.assertTold(Desk(SMALL), "needless", "none")
        self.assertTold(desk_of(*CLASH, "read 3 a 13 1 sum(kind=red)"), "cut", "a x")
        nine = desk_of(*[f"read {at} x{at} 5 1 sum()" for at in range(9)])
        self.assertRefused(nine, "cut", TooMany, most=8)

    def test_book(self):
        desk = Desk(SMALL)
        self.assertTold(desk, "book", "empty")
        for line in EXAMPLE:
            desk.tell(line)
        self.assertTold(desk, "book", "read 1 x 1,1 10 1; rough 2 leak 0 -2 1; read 4 eye 1,0 3 2")
        self.assertEqual(desk.tell("book"), book_text(desk.book).replace("\n", "; "))

    def test_show(self):
        desk = Desk(SMALL)
        for text, shown in [("2*( sum(kind=red|blue) -  -a)/3", "2 * (sum(kind=red|blue) - -a) / 3"), ("nix", "nix"),
                            ("sum(hue=green)", "sum(hue=green)"), ("1/0", "1 / 0"), ("each( a,b = c )", "each(a, b=c)")]:
            self.assertTold(desk, f"show {text}", shown)
        self.assertRefused(desk, "show @1 a", BadText, place=0)
        self.assertRefused(desk, "show 1 +", BadText, place=3)
        self.assertRefused(desk, f"show {'-' * 30}a", NoExpression, word="depth")

    def test_names(self):
        desk = Desk(SMALL)
        self.assertTold(desk, "names", "none")
        for name in ("b", "a10", "a9", "b", "z"):
            desk.tell(f"let {name} 1")
        self.assertTold(desk, "names", "a10 a9 b z")

    def test_questions_are_no_changes(self):
        desk = desk_of(*EXAMPLE)
        for line in [*PROBES, "excuses 1", "needless", "cut", "show all", "ask 1", "error 1"]:
            desk.tell(line)
        self.assertEqual(desk.journal(), EXAMPLE)

    def test_the_property(self):
        desk = Desk(SMALL)
        self.assertEqual(desk.book, Book(SMALL))
        desk.tell("exact 1 e 1,1")
        book = desk.book
        desk.tell("drop e")
        self.assertEqual((book.names(), desk.book.names()), (["e"], []))


class TellAllTest(DeskCase):
    def test_answers(self):
        for lines in (EXAMPLE, tuple(EXAMPLE)):
            found = Desk(SMALL).tell_all(lines)
            self.assertIs(type(found), list)
            self.assertEqual(found, ["ok"] * 5)
        self.assertEqual(Desk(SMALL).tell_all([]), [])
        self.assertEqual(desk_of(*EXAMPLE).tell_all(["ask all", "undo", "book", "ask 1"]),
                         ["6 to 10", "ok", "read 1 x 1,1 10 1; rough 2 leak 0 -2 1", "1"])

    def assertPutBack(self, before, lines, place, word):
        desk = desk_of(*before)
        state = whole(desk)
        with self.subTest(lines):
            with self.assertRaises(BadLine) as caught:
                desk.tell_all(lines)
            self.assertIs(type(caught.exception), BadLine)
            self.assertEqual((caught.exception.place, caught.exception.word), (place, word))
            self.assertEqual(whole(desk), state)
            # Also what the desk itself can do again and undo, not only a new one that is told its journal.
            again, back = steps_of(desk, "redo"), steps_of(desk, "undo")
            self.assertEqual(again, state[2][1:])
            self.assertEqual(back, [*reversed(state[2][:-1]), *state[1][1:]])

    def test_a_line_that_raises(self):
        before = [*EXAMPLE, "let n 5", "undo"]
        good = ["let a 1", "exact 9 e 1,1", "undo", "go old", "branch new", "undo", "undo", "redo", "merge main"]
        for wrong, name in [
            ("nix", "noline"), (5, "noline"), (None, "noline"), ("ask (", "badtext"), ("ask nix", "nomeaning"), ("drop q", "noname"),
            (f"show {'-' * 30}a", "noexpression"), ("rough 9 A 0 0 1", "noentry"), ("go q", "noname"), ("excuses 4", "nocount"),
            ("read 1 q 5 1 sum()", "sametime"), ("read 100 x 5 1 sum()", "samename"), ("redo", "noredo"), (["undo"], "noline"),
        ]:
            self.assertPutBack(before, [*good, wrong, *good], len(good), f"refused {name}")
            if wrong != "redo":
                self.assertPutBack(before, [wrong, *good], 0, f"refused {name}")
        self.assertPutBack(EXAMPLE, ["undo"] * 9, 5, "refused noundo")
        self.assertPutBack([*EXAMPLE, "undo", "undo"], ["redo", "redo", "redo"], 2, "refused noredo")
        self.assertPutBack([*EXAMPLE, "undo", "undo"], ["redo", "let q 1", "redo"], 2, "refused noredo")
        self.assertPutBack([], [*CLASH, "ask sum()"], 2, "refused clash")
        conflict = ["branch old", "exact 1 a 1,1", "go old", "exact 1 b 1,1", "merge main"]
        self.assertPutBack([], conflict, 4, "refused conflicted")
        self.assertPutBack([], ["branch b", "branch c", "branch d", "branch e", "branch f", "branch g"], 5, "refused toomany")

    def test_what_can_be_done_again_is_kept(self):
        desk = desk_of(*EXAMPLE, "undo", "undo")
        with self.assertRaises(BadLine):
            desk.tell_all(["let q 1", "nix"])
        self.assertEqual(desk.tell_all(["redo", "redo"]), ["ok", "ok"])
        self.assertEqual(desk.book.names(), ["x", "leak", "eye"])
        self.assertEqual(desk.journal(), [*EXAMPLE, "undo", "undo", "redo", "redo"])


class JournalTest(DeskCase):
    def test_lines(self):
        desk = Desk(SMALL)
        self.assertEqual(desk.journal(), [])
        desk.tell_all(["let a 1", "ask a", "go main", "undo", "book", "redo", "let b  1"])
        for line in ("nix", "let c nix", "drop q"):
            with self.assertRaises((NoLine, NoMeaning, NoName)):
                desk.tell(line)
        wanted = ["let a 1", "go main", "undo", "redo", "let b  1"]
        found = desk.journal()
        self.assertIs(type(found), list)
        self.assertEqual(found, wanted)
        found.clear()
        self.assertEqual(desk.journal(), wanted)

    def test_a_new_desk_answers_alike(self):
        lines = [
            *EXAMPLE, "undo", "let half all / 2", "go old", "exact 9 e 1,1", "undo", "redo", "go main", "merge old", "undo", "undo",
            "redo", "fold", "trim", "branch more", "go more", "drop x", "undo", "undo", "merge old", "plan 12 p 1 half", "undo",
        ]
        desk = Desk(SMALL)
        for number, line in enumerate(lines):
            desk.tell(line)
            if number % 3 == 0 or number == len(lines) - 1:
                other = desk_of(*desk.journal())
                self.assertEqual(whole(other), whole(desk))
                self.assertEqual(other.book, desk.book)
        self.assertEqual(desk.journal(), lines)


if __name__ == "__main__":
    unittest.main()
