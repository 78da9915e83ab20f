"""Drifts: amounts that no look sees."""

from toldwithin.ratios import Ratio
from toldwithin.rows import Row
from toldwithin.steps import Steps
from toldwithin.sums import dot


def drift(looks, question):
    """Amounts at which the questions of looks have the answer 0 and a question has 1; None if there are none."""
    rows = [Row(look.question.weights).parts for look in looks]
    steps = Steps(rows, list(range(len(rows))), question.grid.size)
    asked = Row(question.weights)
    way = steps.way_out(asked.parts)
    if way is None:
        return None
    bottom = dot(asked.parts, way) * asked.scale.bottom
    return tuple([Ratio(part * asked.scale.top, bottom) for part in way])
