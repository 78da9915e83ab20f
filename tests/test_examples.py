"""The examples of the document, as it writes them."""

import doctest
import pathlib
import unittest

from toldwithin.books import Book
from toldwithin.branches import check_cut, cut, cut_paper, merged
from toldwithin.buying import Goal, Offer, cheapest
from toldwithin.clashes import check_clash, clash_of, excuses, surely_wrong
from toldwithin.desk import Desk
from toldwithin.entries import Exact, Planned, Reading, Rough
from toldwithin.errors import BadText
from toldwithin.forgetting import enough, needless
from toldwithin.grids import Grid
from toldwithin.histories import History, explains, misfits
from toldwithin.moments import course_of, roughness
from toldwithin.parsing import parse, show
from toldwithin.promises import check_promise, least_error, promise_of
from toldwithin.questions import Question, each_of, sum_of
from toldwithin.stores import Store
from toldwithin.stretches import estimate, stretch
from toldwithin.worth import gain, useless


def texts(numbers):
    return [number.text() for number in numbers]


class ExamplesTest(unittest.TestCase):
    def test_grids_and_questions(self):
        grid = Grid([("year", ["a", "b"]), ("kind", ["red", "blue"])])
        self.assertEqual(grid.cells, (("a", "red"), ("a", "blue"), ("b", "red"), ("b", "blue")))
        found = [grid.region([("kind", ["blue"])]), sum_of(grid, [("year", ("b",))]).at([1, 2, 3, 5]).text()]
        self.assertEqual(found, [(1, 3), "8"])
        found = [question.at([1, 2, 3, 5]).text() for question in each_of(grid, "kind", [])]
        self.assertEqual(found, ["4", "7"])

    def test_expressions(self):
        self.assertEqual(show(parse("2*( sum(kind=red|blue) -  -a)/3")), "2 * (sum(kind=red|blue) - -a) / 3")
        self.assertEqual(parse("a + each(kind, year=b)").kind, "plus")

    def test_a_wrong_text(self):
        with self.assertRaises(BadText) as caught:
            parse("sum(kind=) + 1")
        self.assertEqual(caught.exception.place, 9)

    def test_histories(self):
        grid = Grid([("kind", ["red", "blue"])])
        both = sum_of(grid, [])
        deeds = [Rough(2, "leak", grid, 0, -2, 1), Exact(3, "buy", grid, (0, 4))]
        book = Book(grid, [Reading(1, "count", both, 10, 1), *deeds])
        one = History((6, 5), {"leak": -1})
        self.assertEqual([texts(one.at(book, 2)), texts(one.at(book)), explains(book, one)], [["3", "5"], ["3", "9"], True])
        self.assertEqual(misfits(book, History((6, 6), {"leak": 2})), ["count", "leak"])

    def test_promises(self):
        grid = Grid([("kind", ["red", "blue"])])
        red, blue = Question(grid, (1, 0)), Question(grid, (0, 1))
        entries = [Planned(1, "all", red + blue, 1), Rough(2, "leak", grid, 0, 0, 3), Planned(4, "eye", red, 2)]
        book = Book(grid, entries)
        found = [least_error(book, red).text(), least_error(book, blue).text(), least_error(book, red, at=1).text()]
        self.assertEqual(found, ["2", "6", "5"])
        self.assertIs(check_promise(book, blue, promise_of(book, blue)), True)

    def test_stretches(self):
        grid = Grid([("kind", ["red", "blue"])])
        red, blue = Question(grid, (1, 0)), Question(grid, (0, 1))
        entries = [Reading(1, "all", red + blue, 10, 1), Rough(2, "leak", grid, 0, -2, 1), Reading(4, "eye", red, 3, 2)]
        book = Book(grid, entries)
        found = [texts(stretch(book, red)), texts(stretch(book, blue)), stretch(book.upto(2), red)]
        self.assertEqual(found, [["1", "5"], ["1", "9"], None])
        found = [estimate(book, red + blue).text(), texts(stretch(book, red + blue, at=0))]
        self.assertEqual(found, ["8", ["9", "11"]])

    def test_clashes(self):
        grid = Grid([("kind", ["red"])])
        red = sum_of(grid, [])
        book = Book(grid, [Reading(1, "x", red, 5, 1), Reading(2, "y", red, 6, 1), Reading(3, "z", red, 9, 1)])
        found = [check_clash(book, clash_of(book)), check_clash(book, {"x": 1, "z": -1})]
        self.assertEqual(found, [True, True])
        self.assertEqual([excuses(book, 2), surely_wrong(book, 1)], [[("z",), ("x", "y")], ["z"]])

    def test_moments(self):
        grid = Grid([("kind", ["red"])])
        red = sum_of(grid, [])
        book = Book(grid, [Reading(1, "x", red, 5, 2), Rough(2, "leak", grid, 0, -1, 1), Reading(3, "y", red, 2, 0)])
        found = [(time, texts(then), texts(now)) for time, then, now in course_of(book, red)]
        self.assertEqual(found, [
            (1, ["3", "7"], ["3", "4"]), (2, ["1", "7"], ["2", "2"]), (3, ["2", "2"], ["2", "2"]),
        ])
        self.assertEqual(roughness(book, red * -3, 3, 0).text(), "3")

    def test_worth_and_buying(self):
        grid = Grid([("kind", ["red", "blue"])])
        red, blue = Question(grid, (1, 0)), Question(grid, (0, 1))
        book = Book(grid, [Planned(1, "all", red + blue, 1)])
        offers = [Offer("eye", red, 2, 5), Offer("ear", red, 4, 3), Offer("both", red - blue, 1, 6)]
        found = [cheapest(book, offers, [Goal(blue, error)]) for error in (3, 1, 0)]
        self.assertEqual(found, [(5, ("eye",)), (6, ("both",)), None])
        more = book.add(Planned(2, "eye", red, 2)).add(Planned(3, "pair", red + blue, 3))
        found = [number if number is None else number.text() for number in gain(more, "eye", blue)]
        self.assertEqual([useless(more, "pair"), useless(more, "eye"), found], [True, False, [None, "3"]])

    def test_stores(self):
        grid = Grid([("kind", ["red"])])
        red = sum_of(grid, [])
        store = Store(Book(grid, [Reading(1, "x", red, 5, 2)]))
        self.assertEqual(texts(store.keep("now", red)), ["3", "7"])
        entries = [Exact(2, "buy", grid, [4]), Rough(3, "leak", grid, 0, 0, 1), Reading(4, "y", red, 9, 1)]
        self.assertEqual([store.add(entry) for entry in entries], [{"now": "moved"}, {"now": "wider"}, {"now": "narrower"}])
        found = [texts(store.answer("now")), store.back(), texts(store.answer("now")), store.many()]
        self.assertEqual(found, [["8", "10"], None, ["6", "12"], 3])

    def test_branches_and_forgetting(self):
        grid = Grid([("kind", ["red"])])
        red = sum_of(grid, [])
        base = Book(grid, [Reading(1, "x", red, 5, 1)])
        one = base.add(Exact(2, "buy", grid, [10]))
        other = base.add(Reading(3, "y", red, 5, 1))
        whole = merged(base, one, other)
        found = [whole.names(), cut(whole), check_cut(whole, cut(whole), cut_paper(whole)), cut(other)]
        self.assertEqual(found, [["x", "buy", "y"], ("x",), True, ()])
        found = [needless(other), enough(other, [red]), merged(base, one, base.add(Exact(2, "sell", grid, [-1]))).what]
        self.assertEqual(found, [["x", "y"], ("x",), 2])

    def test_the_desk(self):
        desk = Desk(Grid([("kind", ["red", "blue"])]))
        lines = ["let all sum()", "read 1 x 10 1 all", "branch old", "rough 2 leak 0 -2 1", "read 4 eye 3 2 sum(kind=red)"]
        self.assertEqual(desk.tell_all(lines), ["ok"] * 5)
        found = [desk.tell("ask each(kind)"), desk.tell("error sum(kind=blue)"), desk.tell("ask @1 2 * all")]
        self.assertEqual(found, ["1 to 5; 1 to 9", "4", "18 to 22"])
        lines = ["merge old", "branches", "undo", "needless", "excuses 1"]
        self.assertEqual([desk.tell(line) for line in lines], ["ok", "main* old", "ok", "none", "nothing"])


class ReadmeTest(unittest.TestCase):
    def test_its_examples(self):
        path = pathlib.Path(__file__).parent.parent / "README.md"
        lines = [line for line in path.read_text(encoding="utf-8").split("\n") if line != "```"]
        test = doctest.DocTestParser().get_doctest("\n".join(lines), {}, "README", str(path), 0)
        self.assertGreater(len(test.examples), 5)
        told = []
        found = doctest.DocTestRunner(verbose=False).run(test, out=told.append)
        self.assertEqual(found.failed, 0, "".join(told))


if __name__ == "__main__":
    unittest.main()
