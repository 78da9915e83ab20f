"""The desk: books, branches and names, all by lines of text."""

from toldwithin.errors import BadLine, NoRedo, NoUndo, ToldError
from toldwithin.lines import read_line
from toldwithin.orders import state_behind
from toldwithin.replies import is_asked, reply_to
from toldwithin.states import first_state, present_book


class Desk:
    """Works on branches of a book by lines; each change can be undone, and done again."""

    def __init__(self, grid):
        self.state = first_state(grid)
        self.past = []
        self.future = []
        self.done = []

    @property
    def book(self):
        return present_book(self.state)

    def tell(self, line):
        """Carries out a line, and returns its answer."""
        command, told = read_line(line)
        if is_asked(command):
            return reply_to(self.state, command, told)
        if command == "undo":
            self.undo()
        elif command == "redo":
            self.redo()
        else:
            self.change_to(state_behind(self.state, command, told))
        self.done.append(line)
        return "ok"

    def undo(self):
        if len(self.past) == 0:
            raise NoUndo()
        self.future.append(self.state)
        self.state = self.past.pop()

    def redo(self):
        if len(self.future) == 0:
            raise NoRedo()
        self.past.append(self.state)
        self.state = self.future.pop()

    def change_to(self, state):
        self.past.append(self.state)
        self.future = []
        self.state = state

    def tell_all(self, lines):
        """Carries out several lines, or none of them if one is wrong, and returns their answers."""
        state, past, future, done = self.state, list(self.past), list(self.future), list(self.done)
        answers = []
        for place, line in enumerate(lines):
            try:
                answers.append(self.tell(line))
            except ToldError as wrong:
                self.state, self.past, self.future, self.done = state, past, future, done
                raise BadLine(place, wrong.told()) from None
        return answers

    def journal(self):
        """The lines that were changes, in their order."""
        return list(self.done)
