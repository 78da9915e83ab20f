"""The errors of the package: each stands directly under ToldError."""


class ToldError(ValueError):
    """Something was refused."""

    def told(self):
        return "refused tolderror"


class NoRatio(ToldError):
    """There is no such ratio."""

    def __init__(self, word):
        self.word = word

    def told(self):
        return "refused noratio"


class NoGrid(ToldError):
    """There is no such grid."""

    def __init__(self, word):
        self.word = word

    def told(self):
        return "refused nogrid"


class NoCell(ToldError):
    """No cell of the grid has these members."""

    def told(self):
        return "refused nocell"


class NoWish(ToldError):
    """A pair of a wish, or the wish itself (place -1), is not as told."""

    def __init__(self, place, word):
        self.place = place
        self.word = word

    def told(self):
        return "refused nowish"


class NoAxis(ToldError):
    """The grid has no such axis."""

    def told(self):
        return "refused noaxis"


class NoQuestion(ToldError):
    """There is no such question."""

    def __init__(self, word):
        self.word = word

    def told(self):
        return "refused noquestion"


class NoAmounts(ToldError):
    """These are no amounts of the grid."""

    def told(self):
        return "refused noamounts"


class OtherGrid(ToldError):
    """Two things that go together have unequal grids."""

    def told(self):
        return "refused othergrid"


class NoExpression(ToldError):
    """There is no such expression."""

    def __init__(self, word):
        self.word = word

    def told(self):
        return "refused noexpression"


class BadText(ToldError):
    """A text is wrong at this place."""

    def __init__(self, place):
        self.place = place

    def told(self):
        return "refused badtext"


class NoMeaning(ToldError):
    """An expression means nothing for the grid."""

    def __init__(self, word):
        self.word = word

    def told(self):
        return "refused nomeaning"


class NoEntry(ToldError):
    """There is no such entry."""

    def __init__(self, word):
        self.word = word

    def told(self):
        return "refused noentry"


class NoBook(ToldError):
    """There is no such book."""

    def __init__(self, word):
        self.word = word

    def told(self):
        return "refused nobook"


class SameTime(ToldError):
    """Two entries have this time."""

    def __init__(self, time):
        self.time = time

    def told(self):
        return "refused sametime"


class SameName(ToldError):
    """Two entries have this name."""

    def __init__(self, name):
        self.name = name

    def told(self):
        return "refused samename"


class TooMany(ToldError):
    """There are more than this many."""

    def __init__(self, most):
        self.most = most

    def told(self):
        return "refused toomany"


class NoName(ToldError):
    """Nothing has this name."""

    def __init__(self, name):
        self.name = name

    def told(self):
        return "refused noname"


class NoTime(ToldError):
    """This is no time."""

    def told(self):
        return "refused notime"


class NoHistory(ToldError):
    """This is no history, or none of this book."""

    def told(self):
        return "refused nohistory"


class NoWeights(ToldError):
    """This is no combination that makes the question."""

    def told(self):
        return "refused noweights"


class NoSide(ToldError):
    """This does not tell low from high."""

    def told(self):
        return "refused noside"


class NoNumber(ToldError):
    """This is no number."""

    def told(self):
        return "refused nonumber"


class Clash(ToldError):
    """No history explains the book."""

    def told(self):
        return "refused clash"


class Endless(ToldError):
    """The answer can be any number."""

    def told(self):
        return "refused endless"


class NoCount(ToldError):
    """This is no count as told."""

    def told(self):
        return "refused nocount"


class NoOffer(ToldError):
    """There is no such offer."""

    def __init__(self, word):
        self.word = word

    def told(self):
        return "refused nooffer"


class NoGoal(ToldError):
    """There is no such goal."""

    def __init__(self, word):
        self.word = word

    def told(self):
        return "refused nogoal"


class NoOffers(ToldError):
    """An offer, or the sequence of offers (place -1), is not as told."""

    def __init__(self, place):
        self.place = place

    def told(self):
        return "refused nooffers"


class NoChoice(ToldError):
    """This is no choice among the offers."""

    def told(self):
        return "refused nochoice"


class NoGoals(ToldError):
    """A goal, or the sequence of goals (place -1), is not as told."""

    def __init__(self, place):
        self.place = place

    def told(self):
        return "refused nogoals"


class NoUndo(ToldError):
    """There is nothing to undo."""

    def told(self):
        return "refused noundo"


class NoRedo(ToldError):
    """There is nothing to do again."""

    def told(self):
        return "refused noredo"


class NoNames(ToldError):
    """These are no names of readings of the book."""

    def told(self):
        return "refused nonames"


class NoQuestions(ToldError):
    """A question, or the sequence of questions (place -1), is not as told."""

    def __init__(self, place):
        self.place = place

    def told(self):
        return "refused noquestions"


class NoLine(ToldError):
    """This line has none of the forms."""

    def told(self):
        return "refused noline"


class Conflicted(ToldError):
    """Two branches do not go together."""

    def __init__(self, kind, what):
        self.kind = kind
        self.what = what

    def told(self):
        return "refused conflicted"


class BadLine(ToldError):
    """One of several lines was refused."""

    def __init__(self, place, word):
        self.place = place
        self.word = word

    def told(self):
        return "refused badline"
