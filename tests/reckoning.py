"""A reckoning of the tests' own, with fractions of Python, by the sums of the document.

Least errors, stretches and clashes are found by going through all independent lots of looks and rough deeds. A line is
a list of fractions: what a question at a moment asks of the amounts at first and of the extras of the rough deeds.
"""

from fractions import Fraction
from itertools import combinations

from toldwithin.entries import Exact, Planned, Reading, Rough
from toldwithin.ratios import Ratio


def fraction(number):
    return Fraction(number.top, number.bottom) if isinstance(number, Ratio) else Fraction(number)


def fractions(numbers):
    return [fraction(number) for number in numbers]


def ratio(found):
    return Ratio(found.numerator, found.denominator)


def is_ahead(entry, at):
    return at is None or entry.time <= at


def entries_of(book, *kinds):
    return [entry for entry in book.entries if isinstance(entry, kinds)]


def answer(question, amounts):
    return sum((weight * amount for weight, amount in zip(fractions(question.weights), amounts)), Fraction(0))


def known_change(book, at):
    known = [Fraction(0)] * book.grid.size
    for entry in entries_of(book, Exact, Rough):
        if is_ahead(entry, at):
            for place in range(book.grid.size):
                if isinstance(entry, Exact):
                    known[place] += fraction(entry.changes[place])
                elif entry.place == place:
                    known[place] += fraction(entry.amount)
    return known


def extra_of(history, deed):
    return fraction(history.extras.get(deed.name, 0))


def bare_amounts(book, history, at):
    bare = fractions(history.first)
    for deed in entries_of(book, Rough):
        if is_ahead(deed, at):
            bare[deed.place] += extra_of(history, deed)
    return bare


def amounts(book, history, at):
    return [bare + more for bare, more in zip(bare_amounts(book, history, at), known_change(book, at))]


def does_explain(book, history):
    for deed in entries_of(book, Rough):
        if abs(extra_of(history, deed)) > fraction(deed.bound):
            return False
    for reading in entries_of(book, Reading):
        found = answer(reading.question, amounts(book, history, reading.time))
        if abs(found - fraction(reading.value)) > fraction(reading.slip):
            return False
    return len(history.first) == book.grid.size


def does_make(book, question, weights):
    for place, wanted in enumerate(fractions(question.weights)):
        parts = [fraction(weight) * fraction(book[name].question.weights[place]) for name, weight in weights.items()]
        if sum(parts, Fraction(0)) != wanted:
            return False
    return True


def price(book, question, weights, at):
    """By the two sums of [22], for a combination that makes the question."""
    total = Fraction(0)
    for name, weight in weights.items():
        total += abs(fraction(weight) * fraction(book[name].slip))
    for deed in entries_of(book, Rough):
        part = fraction(question.weights[deed.place]) if is_ahead(deed, at) else Fraction(0)
        for name, weight in weights.items():
            if book[name].time > deed.time:
                part -= fraction(weight) * fraction(book[name].question.weights[deed.place])
        total += fraction(deed.bound) * abs(part)
    return total


def center(book, question, weights, at):
    """By the sums of [25], for a combination of readings that makes the question."""
    total = answer(question, known_change(book, at))
    for name, weight in weights.items():
        reading = book[name]
        known = answer(reading.question, known_change(book, reading.time))
        total += fraction(weight) * (fraction(reading.value) - known)
    return total


def is_doubt(book, question, doubt, at):
    """By the words of [23]."""
    history = doubt.history
    looks = entries_of(book, Reading, Planned)
    answers = [answer(look.question, bare_amounts(book, history, look.time)) for look in looks]
    asked = answer(question, bare_amounts(book, history, at))
    deeds = entries_of(book, Rough)
    if doubt.error is None:
        return not any(answers) and not any(extra_of(history, deed) for deed in deeds) and asked == 1
    if any(abs(extra_of(history, deed)) > fraction(deed.bound) for deed in deeds):
        return False
    slips = [fraction(look.slip) for look in looks]
    return all(abs(found) <= slip for found, slip in zip(answers, slips)) and asked == fraction(doubt.error)


def line_of(book, question, at):
    weights = fractions(question.weights)
    return weights + [weights[deed.place] if is_ahead(deed, at) else Fraction(0) for deed in entries_of(book, Rough)]


def lines_of(book, *kinds):
    """Triples (line, reach, bare value) for the rough deeds and for the looks of some kinds."""
    deeds = entries_of(book, Rough)
    found = []
    for place, deed in enumerate(deeds):
        line = [Fraction(0)] * book.grid.size + [Fraction(int(at == place)) for at in range(len(deeds))]
        found.append((line, fraction(deed.bound), Fraction(0)))
    for entry in entries_of(book, *kinds):
        value = Fraction(0)
        if isinstance(entry, Reading):
            value = fraction(entry.value) - answer(entry.question, known_change(book, entry.time))
        found.append((line_of(book, entry.question, entry.time), fraction(entry.slip), value))
    return found


def solution(lines, aim):
    """The weights of independent lines whose sum is an aim; None if the lines depend or do not make it."""
    rows = [[line[at] for line in lines] + [aim[at]] for at in range(len(aim))]
    for column in range(len(lines)):
        pivot = next((at for at in range(column, len(rows)) if rows[at][column] != 0), None)
        if pivot is None:
            return None
        rows[column], rows[pivot] = rows[pivot], rows[column]
        rows[column] = [part / rows[column][column] for part in rows[column]]
        for at, row in enumerate(rows):
            if at != column and row[column] != 0:
                rows[at] = [part - row[column] * other for part, other in zip(row, rows[column])]
    if any(row[-1] != 0 for row in rows[len(lines):]):
        return None
    return [row[-1] for row in rows[:len(lines)]]


def combined(told, aim):
    """The pairs (bare center, price) of all independent lots of lines that make an aim."""
    found = []
    for many in range(len(told) + 1):
        for lot in combinations(told, many):
            weights = solution([line for line, _, _ in lot], aim)
            if weights is not None:
                told_center = sum((weight * value for weight, (_, _, value) in zip(weights, lot)), Fraction(0))
                told_price = sum((abs(weight) * reach for weight, (_, reach, _) in zip(weights, lot)), Fraction(0))
                found.append((told_center, told_price))
    return found


def least_error(book, question, at):
    found = combined(lines_of(book, Reading, Planned), line_of(book, question, at))
    return min((told_price for _, told_price in found), default=None)


def has_clash(book):
    """Whether some line cannot have the answer that others together ask of it."""
    told = lines_of(book, Reading)
    for one in told:
        line, reach, value = one
        for told_center, told_price in combined([other for other in told if other is not one], line):
            if abs(value - told_center) > reach + told_price:
                return True
    return False


def stretch(book, question, at):
    """The pair of the ends, for a book without a clash; None if the question is endless."""
    found = combined(lines_of(book, Reading), line_of(book, question, at))
    if not found:
        return None
    known = answer(question, known_change(book, at))
    low = max(told_center - told_price for told_center, told_price in found)
    return low + known, min(told_center + told_price for told_center, told_price in found) + known


def excuses(book, most):
    names = sorted(reading.name for reading in entries_of(book, Reading))
    found = []
    for many in range(most + 1):
        for lot in combinations(names, many):
            left = type(book)(book.grid, [entry for entry in book.entries if entry.name not in lot])
            if not any(set(other) <= set(lot) for other in found) and not has_clash(left):
                found.append(lot)
    return found
