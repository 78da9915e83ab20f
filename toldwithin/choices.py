"""Choices of some out of several."""


def choices(items, many):
    """All ways to choose so many items, each a tuple in their order, those with earlier items ahead."""
    if many == 0:
        return [()]
    found = []
    for place, item in enumerate(items):
        for rest in choices(items[place + 1:], many - 1):
            found.append((item, *rest))
    return found
