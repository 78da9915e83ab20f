"""The texts of expressions: how they are read, and how they are shown."""

from toldwithin.errors import BadText
from toldwithin.kinds import DIGITS, LETTERS, RESERVED, is_figure, is_word
from toldwithin.trees import Expression

SIGNS = ("+", "-", "*", "/", "(", ")", "=", "|", ",")
SUMS = ("plus", "minus")
SUMS_AND_PRODUCTS = ("plus", "minus", "times", "over")
SIGN_OF = {"plus": "+", "minus": "-", "times": "*", "over": "/"}
KIND_OF = {"+": "plus", "-": "minus", "*": "times", "/": "over"}


def parse(text):
    """The expression of a text."""
    if not isinstance(text, str):
        raise BadText(-1)
    row = TokenRow(text)
    steps = []
    take_expression(row, steps)
    row.take("end")
    # The tree is built behind all tokens, because a wrong token goes ahead of a tree too deep.
    return built(steps)


class TokenRow:
    """The tokens of a text, taken one by one."""

    def __init__(self, text):
        self.tokens = tokens_of(text)
        self.taken = 0

    def ahead(self):
        """The sort of the next token."""
        return self.tokens[self.taken][0]

    def take(self, sort):
        """The word of the next token, which has to be of this sort."""
        found, word, place = self.tokens[self.taken]
        if found != sort:
            raise BadText(place)
        self.taken += 1
        return word


def tokens_of(text):
    """Triples of a token's sort, its word and its place; the last one stands for the end."""
    found = []
    place = 0
    while place < len(text):
        behind = end_of_token(text, place)
        if text[place] != " ":
            found.append((sort_of(text[place:behind]), text[place:behind], place))
        place = behind
    found.append(("end", "", len(text)))
    return found


def end_of_token(text, place):
    behind = place + 1
    if is_of_run(text[place]):
        while behind < len(text) and is_of_run(text[behind]):
            behind += 1
    return behind


def is_of_run(sign):
    return sign in LETTERS or sign in DIGITS


def sort_of(word):
    """What a token is: each sign and each reserved word is a sort of its own."""
    if word in RESERVED or word in SIGNS:
        return word
    if is_figure(word):
        return "figure"
    if is_word(word):
        return "name"
    return "nothing"


# The functions from here to take_bare_factor take tokens by the rules and put steps to a list: the
# kind of an expression, how many of the expressions built last are its parts, and its other parts.


def take_expression(row, steps):
    take_term(row, steps)
    while row.ahead() in ("+", "-"):
        sign = row.take(row.ahead())
        take_term(row, steps)
        steps.append((KIND_OF[sign], 2, ()))


def take_term(row, steps):
    take_factor(row, steps)
    while row.ahead() in ("*", "/"):
        sign = row.take(row.ahead())
        take_factor(row, steps)
        steps.append((KIND_OF[sign], 2, ()))


def take_factor(row, steps):
    # A loop, because a text may have more of these signs than calls can stand within one another.
    signs = 0
    while row.ahead() == "-":
        row.take("-")
        signs += 1
    take_bare_factor(row, steps)
    for _ in range(signs):
        steps.append(("negated", 1, ()))


def take_bare_factor(row, steps):
    sort = row.ahead()
    if sort == "figure":
        steps.append(("figure", 0, (int(row.take("figure")),)))
    elif sort == "(":
        row.take("(")
        take_expression(row, steps)
        row.take(")")
    elif sort == "sum":
        steps.append(("sum", 0, (take_sum(row),)))
    elif sort == "each":
        steps.append(("each", 0, take_each(row)))
    else:
        steps.append(("name", 0, (row.take("name"),)))


def take_sum(row):
    """The wish of a sum."""
    row.take("sum")
    row.take("(")
    wish = take_pairs(row) if row.ahead() != ")" else []
    row.take(")")
    return wish


def take_each(row):
    """The axis and the wish of an each."""
    row.take("each")
    row.take("(")
    axis = row.take("name")
    wish = []
    if row.ahead() == ",":
        row.take(",")
        wish = take_pairs(row)
    row.take(")")
    return axis, wish


def take_pairs(row):
    pairs = [take_pair(row)]
    while row.ahead() == ",":
        row.take(",")
        pairs.append(take_pair(row))
    return pairs


def take_pair(row):
    axis = row.take("name")
    row.take("=")
    members = [row.take("name")]
    while row.ahead() == "|":
        row.take("|")
        members.append(row.take("name"))
    return axis, members


def built(steps):
    """The expression that steps build."""
    ready = []
    for kind, many, others in steps:
        split = len(ready) - many
        parts = [*ready[split:], *others]
        del ready[split:]
        ready.append(Expression(kind, parts))
    return ready[0]


def show(expression):
    """The normal text of an expression."""
    kind, parts = expression.kind, expression.parts
    if kind == "figure":
        return str(parts[0])
    if kind == "name":
        return parts[0]
    if kind == "sum":
        return f"sum({shown_list(shown_pairs(parts[0]))})"
    if kind == "each":
        shown = [parts[0], *shown_pairs(parts[1])]
        return f"each({shown_list(shown)})"
    if kind == "negated":
        return f"-{shown_within(parts[0], SUMS_AND_PRODUCTS)}"
    return shown_joined(kind, parts[0], parts[1])


def shown_joined(kind, one, two):
    if kind in SUMS:
        left, right = show(one), shown_within(two, SUMS)
    else:
        left, right = shown_within(one, SUMS), shown_within(two, SUMS_AND_PRODUCTS)
    return f"{left} {SIGN_OF[kind]} {right}"


def shown_within(expression, wrapped):
    """The text of a part, in parentheses if it is of one of the wrapped kinds."""
    text = show(expression)
    return f"({text})" if expression.kind in wrapped else text


def shown_pairs(wish):
    return [f"{axis}={shown_members(members)}" for axis, members in wish]


def shown_members(members):
    return "|".join(members)


def shown_list(texts):
    return ", ".join(texts)
