"""What expressions mean for a grid."""

from toldwithin.errors import NoAmounts, NoAxis, NoMeaning, NoWish
from toldwithin.questions import Listed, Question, are_amounts, each_of, sum_of
from toldwithin.ratios import Ratio, as_ratio, is_number

# The words for what is wrong with a wish whose pairs are pairs of names.
WORD_OF = {"axis": "axis", "members": "member"}


def meaning(expression, grid, names=None):
    """The number, the question or the list of questions that an expression means."""
    kind, parts = expression.kind, expression.parts
    if kind == "figure":
        return Ratio(parts[0])
    if kind == "name":
        return meaning_of_name(parts[0], names)
    if kind == "sum":
        return meaning_of_sum(grid, parts[0])
    if kind == "each":
        return meaning_of_each(grid, parts[0], parts[1])
    meant = [meaning(part, grid, names) for part in parts]
    if kind == "negated":
        return -meant[0]
    return meaning_of_two(kind, meant[0], meant[1])


def meaning_of_name(name, names):
    if names is None or name not in names:
        raise NoMeaning("name")
    found = names[name]
    return as_ratio(found) if is_number(found) else found


def meaning_of_sum(grid, wish):
    try:
        return sum_of(grid, wish)
    except NoWish as wrong:
        raise NoMeaning(WORD_OF[wrong.word]) from None


def meaning_of_each(grid, axis, wish):
    try:
        return Listed(axis, each_of(grid, axis, wish))
    except NoAxis:
        raise NoMeaning("axis") from None
    except NoWish as wrong:
        raise NoMeaning(WORD_OF[wrong.word]) from None


def meaning_of_two(kind, left, right):
    if not do_go_together(kind, left, right):
        raise NoMeaning("kinds")
    if kind == "plus":
        return left + right
    if kind == "minus":
        return left - right
    if kind == "times":
        return left * right
    if right == 0:
        raise NoMeaning("zero")
    return left.over(right)


def do_go_together(kind, left, right):
    if kind == "times":
        return is_number(left) or is_number(right)
    if kind == "over":
        return is_number(right)
    return are_alike(left, right)


def are_alike(left, right):
    """Whether these are two numbers, two questions, or two lists of one axis."""
    if isinstance(left, Listed):
        return isinstance(right, Listed) and left.axis == right.axis
    if isinstance(left, Question):
        return isinstance(right, Question)
    return is_number(left) and is_number(right)


def reckoned(expression, grid, amounts, names=None):
    """The value of an expression for amounts."""
    if not are_amounts(grid, amounts):
        raise NoAmounts()
    meant = meaning(expression, grid, names)
    return meant if is_number(meant) else meant.at(amounts)
