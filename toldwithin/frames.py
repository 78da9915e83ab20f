"""Frames: what is told of a history, as rows of integers with two bounds each."""

from toldwithin.books import looks_of, readings_of, rough_deeds_of
from toldwithin.changes import bare_values
from toldwithin.climbs import Bounded
from toldwithin.histories import History
from toldwithin.ratios import Ratio
from toldwithin.rows import Row, numbers_of
from toldwithin.sketches import bits_of, highest, sketch_of
from toldwithin.steps import Steps
from toldwithin.sums import dot, over_one


class Span:
    """A row (its numbers) whose answer differs from the middle by at most the reach; a look has its name."""

    def __init__(self, name, numbers, middle, reach):
        self.name = name
        self.numbers = numbers
        self.middle = middle
        self.reach = reach


class Frame:
    """Spans of a book in whose histories the highest answer of a row is asked.

    What is asked is told in terms of some of the spans' rows, as many as are independent: each row, and each row
    that is asked, is a sum of these, which takes far fewer long numbers than the rows themselves.
    """

    def __init__(self, book, spans):
        self.source = book
        self.spans = spans
        self.rows = [Row(span.numbers) for span in spans]
        width = book.grid.size + len(rough_deeds_of(book))
        self.steps = Steps([row.parts for row in self.rows], list(range(len(spans))), width)
        lows = [(span.middle - span.reach) * row.scale for span, row in zip(spans, self.rows)]
        highs = [(span.middle + span.reach) * row.scale for span, row in zip(spans, self.rows)]
        bounds, self.scale = over_one([*lows, *highs])
        terms = [self.aim_of(row) for row in self.rows]
        many = len(spans)
        lengths = [bits_of(self.rows[number].parts) for number in self.steps.kept]
        self.bounded = Bounded(terms, bounds[:many], bounds[many:], len(lengths), self.steps.unit)
        self.sketch = sketch_of(self.bounded, lengths)

    def aim_of(self, row):
        """A row in terms of the independent ones; None if they do not make it."""
        return self.steps.weights_of(row.parts)

    def no_aim(self):
        return [0] * len(self.steps.kept)

    def outcome_of(self, aim, near):
        """The outcome for an aim; a basis that is near the last one helps to find it."""
        return highest(self.bounded, self.sketch, aim, near)


class Search:
    """The highest answer of a row in the histories of a frame, if there is one.

    Without a history there is a clash. Where the row is endless, all that is found is some history.
    """

    def __init__(self, frame, row, near):
        aim = frame.aim_of(row)
        self.frame = frame
        self.scale = row.scale
        self.is_endless = aim is None
        self.aim = frame.no_aim() if aim is None else aim
        self.outcome = frame.outcome_of(self.aim, near)
        self.is_clash = self.outcome.is_clash

    def found_number(self):
        """The highest answer."""
        bottom = self.outcome.unit * self.frame.steps.unit * self.frame.scale
        return Ratio(dot(self.aim, self.outcome.point) * self.scale.bottom, bottom * self.scale.top)

    def found_weights(self):
        """The weights of the looks that show that no answer is higher; in a clash those that show this."""
        found = {}
        for number, weight in self.outcome.weights.items():
            name = self.frame.spans[number].name
            if name is not None and weight != 0:
                own = self.frame.rows[number].scale
                bottom = self.outcome.unit * own.bottom * self.scale.top
                found[name] = Ratio(weight * own.top * self.scale.bottom, bottom)
        return found

    def found_history(self):
        """A history that has the highest answer."""
        bottom = self.outcome.unit * self.frame.steps.unit * self.frame.scale
        numbers = [Ratio(part, bottom) for part in self.frame.steps.point_of(self.outcome.point)]
        deeds = rough_deeds_of(self.frame.source)
        many = len(numbers) - len(deeds)
        return History(numbers[:many], {deed.name: extra for deed, extra in zip(deeds, numbers[many:])})


def search_for_any(frame):
    """The search that finds some history of a frame, or a clash."""
    return Search(frame, Row([Ratio(0)] * frame.steps.width), {})


def spans_of_rough_deeds(book):
    deeds = rough_deeds_of(book)
    width = book.grid.size + len(deeds)
    found = []
    for place, deed in enumerate(deeds):
        numbers = [Ratio(1) if at == book.grid.size + place else Ratio(0) for at in range(width)]
        found.append(Span(None, numbers, Ratio(0), deed.bound))
    return found


def span_of_look(book, look, middle):
    return Span(look.name, numbers_of(book, look.question, look.time), middle, look.slip)


def blind_frame(book):
    """What is known of the difference of a history from another one, if all looks have the same values in both."""
    looks = [span_of_look(book, look, Ratio(0)) for look in looks_of(book)]
    return Frame(book, [*spans_of_rough_deeds(book), *looks])


def spans_of_readings(book):
    """What the readings and the bounds of the rough deeds tell of a history."""
    values = bare_values(book)
    readings = [span_of_look(book, reading, values[reading.name]) for reading in readings_of(book)]
    return [*spans_of_rough_deeds(book), *readings]


def told_frame(book):
    return Frame(book, spans_of_readings(book))
