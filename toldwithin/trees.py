"""The trees that texts of questions stand for."""

from toldwithin.errors import NoExpression
from toldwithin.kinds import are_names, is_integer, is_name, is_pair, is_sequence

MOST_DEPTH = 25

# What the parts of each kind are, in their order.
SHAPES = {
    "figure": ("figure",),
    "name": ("name",),
    "sum": ("wish",),
    "each": ("name", "wish"),
    "plus": ("expression", "expression"),
    "minus": ("expression", "expression"),
    "times": ("expression", "expression"),
    "over": ("expression", "expression"),
    "negated": ("expression",),
}


class Expression:
    """A tree: its kind, and its parts."""

    def __init__(self, kind, parts):
        if not isinstance(kind, str) or kind not in SHAPES:
            raise NoExpression("kind")
        if not do_fit(parts, SHAPES[kind]):
            raise NoExpression("parts")
        self.kind = kind
        self.parts = tuple([kept(part, shape) for part, shape in zip(parts, SHAPES[kind])])
        # Each tree keeps its depth, so that no tree has to be gone through for it again.
        self.depth = 1 + greatest_depth(self.parts)
        if self.depth > MOST_DEPTH:
            raise NoExpression("depth")

    def __eq__(self, other):
        return isinstance(other, Expression) and self.kind == other.kind and self.parts == other.parts


def do_fit(parts, shapes):
    if not is_sequence(parts) or len(parts) != len(shapes):
        return False
    return all([does_fit(part, shape) for part, shape in zip(parts, shapes)])


def does_fit(part, shape):
    if shape == "figure":
        return is_integer(part) and part >= 0
    if shape == "name":
        return is_name(part)
    if shape == "wish":
        return is_like_wish(part)
    return isinstance(part, Expression)


def is_like_wish(found):
    """Whether this could be a wish for some grid."""
    if not is_sequence(found) or not all([is_pair(pair) for pair in found]):
        return False
    return all([is_name(name) and are_names(members) for name, members in found])


def kept(part, shape):
    if shape == "wish":
        return tuple([(name, tuple(members)) for name, members in part])
    return part


def greatest_depth(parts):
    """The depth of the deepest expression among parts, 0 if there is none."""
    deepest = 0
    for part in parts:
        if isinstance(part, Expression) and part.depth > deepest:
            deepest = part.depth
    return deepest
