"""What a value is: the plain kinds that every part of the package asks for."""

LETTERS = "abcdefghijklmnopqrstuvwxyz"
DIGITS = "0123456789"
RESERVED = ("sum", "each")
MOST_NAME_LENGTH = 8
MOST_DIGITS = 60


def is_integer(found):
    # A bool is an int for Python, but no integer of the document.
    return isinstance(found, int) and not isinstance(found, bool)


def is_flag(found):
    return found is True or found is False


def is_sequence(found):
    return isinstance(found, (list, tuple))


def is_pair(found):
    return is_sequence(found) and len(found) == 2


def is_word(found):
    """Whether a string is a NAME, or one of the words that are reserved."""
    if not 1 <= len(found) <= MOST_NAME_LENGTH:
        return False
    return found[0] in LETTERS and all([sign in LETTERS or sign in DIGITS for sign in found])


def is_name(found):
    return isinstance(found, str) and is_word(found) and found not in RESERVED


def are_names(found):
    """Whether this is a sequence of at least one NAME; one may stand twice."""
    return is_sequence(found) and len(found) > 0 and all([is_name(name) for name in found])


def are_unlike_names(found):
    return are_names(found) and len(set(found)) == len(found)


def is_integer_text(text):
    """Whether a string is an integer in decimal digits: without leading zeros, and no -0."""
    digits = text.removeprefix("-")
    if digits == "" or not all([sign in DIGITS for sign in digits]):
        return False
    return text == "0" or digits[0] != "0"


def is_figure(text):
    """Whether a string is 1 to 60 decimal digits without leading zeros."""
    # The length goes first: Python refuses to read very long rows of digits.
    if not 1 <= len(text) <= MOST_DIGITS:
        return False
    return all([sign in DIGITS for sign in text]) and (text == "0" or text[0] != "0")
