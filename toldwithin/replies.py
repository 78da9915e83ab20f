"""The questions that a desk can be asked: each is answered by a text, and changes nothing."""

from toldwithin.branches import cut
from toldwithin.clashes import excuses
from toldwithin.forgetting import needless
from toldwithin.parsing import parse, show
from toldwithin.promises import least_error
from toldwithin.questions import Listed
from toldwithin.ratios import is_number
from toldwithin.states import meant_by, present_book
from toldwithin.stretches import stretch
from toldwithin.texts import book_text


def ask_reply(state, told):
    meant = meant_by(state, told[-1])
    if is_number(meant):
        return meant.text()
    book, at = present_book(state), moment_told(told)
    return "; ".join([stretch_text(stretch(book, question, at=at)) for question in questions_in(meant)])


def error_reply(state, told):
    meant = meant_by(state, told[-1])
    if is_number(meant):
        return "0"
    book, at = present_book(state), moment_told(told)
    return "; ".join([error_text(least_error(book, question, at=at)) for question in questions_in(meant)])


def moment_told(told):
    """The time that stands ahead of the expression, or None."""
    return told[0] if len(told) > 1 else None


def questions_in(meant):
    return meant.questions if isinstance(meant, Listed) else (meant,)


def stretch_text(pair):
    return "endless" if pair is None else f"{pair[0].text()} to {pair[1].text()}"


def error_text(error):
    return "unbounded" if error is None else error.text()


def excuses_reply(state, told):
    found = excuses(present_book(state), told[0])
    return "; ".join([excuse_text(excuse) for excuse in found]) if len(found) > 0 else "none"


def excuse_text(excuse):
    return ",".join(excuse) if len(excuse) > 0 else "nothing"


def needless_reply(state, told):
    return names_text(needless(present_book(state)))


def cut_reply(state, told):
    return names_text(cut(present_book(state)))


def names_text(names):
    return " ".join(names) if len(names) > 0 else "none"


def book_reply(state, told):
    book = present_book(state)
    return book_text(book).replace("\n", "; ") if len(book) > 0 else "empty"


def show_reply(state, told):
    return show(parse(told[0]))


def names_reply(state, told):
    return names_text(sorted(list(state.meanings), key=str))


def branches_reply(state, told):
    names = sorted(list(state.branches), key=str)
    return names_text([f"{name}*" if name == state.present else name for name in names])


REPLIES = {
    "ask": ask_reply, "error": error_reply, "excuses": excuses_reply, "needless": needless_reply, "cut": cut_reply,
    "book": book_reply, "show": show_reply, "names": names_reply, "branches": branches_reply,
}


def is_asked(command):
    return command in REPLIES


def reply_to(state, command, told):
    """The answer to a question."""
    reply = REPLIES[command]
    return reply(state, told)
