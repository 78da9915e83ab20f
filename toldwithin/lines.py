"""The lines that a desk is told: a command, and the words that belong to it."""

from toldwithin.errors import NoLine, NoRatio
from toldwithin.kinds import is_integer_text
from toldwithin.ratios import Ratio
from toldwithin.texts import numbers_in

# What belongs to each command. An expression is the rest of the line.
FORMS = {
    "let": ("word", "expression"),
    "read": ("integer", "word", "number", "number", "expression"),
    "plan": ("integer", "word", "number", "expression"),
    "exact": ("integer", "word", "numbers"),
    "rough": ("integer", "word", "integer", "number", "number"),
    "drop": ("word",),
    "branch": ("word",),
    "go": ("word",),
    "merge": ("word",),
    "fold": (),
    "trim": (),
    "undo": (),
    "redo": (),
    "ask": ("expression",),
    "error": ("expression",),
    "excuses": ("integer",),
    "needless": (),
    "cut": (),
    "book": (),
    "show": ("expression",),
    "names": (),
    "branches": (),
}
# The commands behind which a time may stand.
TIMED = ("ask", "error")


def read_line(line):
    """The command of a line, and a list of what its words stand for; an expression stays a text."""
    if not isinstance(line, str):
        raise NoLine()
    command, _, rest = line.partition(" ")
    if command not in FORMS:
        raise NoLine()
    sorts = FORMS[command]
    if command in TIMED and rest.startswith("@"):
        sorts = ("moment", *sorts)
    words = words_of_line(line, sorts)
    if len(words) != len(sorts):
        raise NoLine()
    return command, [taken(sort, word) for sort, word in zip(sorts, words)]


def words_of_line(line, sorts):
    """The words behind the command; an expression is one of them, with all its blanks."""
    words = line.split(" ", len(sorts)) if "expression" in sorts else line.split(" ")
    return words[1:]


def taken(sort, word):
    """What a word stands for."""
    if word == "":
        raise NoLine()
    if sort == "integer":
        return integer_told(word)
    if sort == "moment":
        return integer_told(word.removeprefix("@"))
    try:
        if sort == "number":
            return Ratio.read(word)
        return numbers_in(word) if sort == "numbers" else word
    except NoRatio:
        raise NoLine() from None


def integer_told(word):
    if not is_integer_text(word):
        raise NoLine()
    return int(word)
