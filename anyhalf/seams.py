"""The left side of a join, over which the takes and runs of the right side go on ([10] to [14])."""

from anyhalf.bonds import bond_at
from anyhalf.forms import left_line, line_of_line, on_line, right_line, sheet_left, sheet_right
from anyhalf.languages import level_of
from anyhalf.sides import Run


class Seam:
    """The stack and the operand of the left side while a right side is read over them.

    `word` is the root of the operand that is there, `worth` its worth: a number,
    but a line of what the last take took if it is the root of that take. It is
    so exactly if there are takes and nothing is left on the stack. Numbers are
    those of the joined half; `links` are the pairs that are decided here.
    """

    def __init__(self, language, side, reckons):
        self.language = language
        self.reckons = reckons
        self.takes = side.takes
        self.last_take = side.last_take
        self.runs = list(side.runs)
        self.top = side.top
        self.word = side.done
        self.worth = side.done_worth
        self.links = []

    def top_row(self):
        """The row of the topmost run; below 0 if no waiting word lies on top."""
        return self.runs[-1].row if self.runs else -1

    def is_of_take(self):
        """Whether what lies at the bottom now is the root of the last take."""
        return len(self.takes) > 0 and not self.runs

    def drop_top(self):
        """The topmost run leaves the stack; tells it and the number of its first word."""
        run = self.runs.pop()
        first = self.top - run.width
        self.top = first - run.gap
        return run, first

    def leave(self):
        """The topmost run leaves the stack with the operand that is there beneath it."""
        self.links.append((self.word, self.top))
        run, self.word = self.drop_top()
        if not self.reckons:
            return
        if self.is_of_take():
            self.worth = sheet_right(self.language, run.worth, self.worth)
        else:
            self.worth = on_line(self.language, run.worth, self.worth)

    def met(self, take, at):
        """What becomes of a take of the right side: "over", "new", or the kind of a fault."""
        if take.pair >= 0:
            return self.met_closing(take.pair, at)
        while self.top_row() >= 0:
            found = bond_at(self.language, self.top_row(), take.row)
            if found == -1:
                return "clash"
            if found == 0:
                break
            self.leave()
        return "over" if self.runs or self.goes_on(take.row) else "new"

    def met_closing(self, pair, at):
        """The same of a closing bracket."""
        while self.top_row() >= 0:
            self.leave()
        if not self.runs:
            return "new"
        if self.runs[-1].pair != pair:
            return "close"
        self.links.append((self.top, at))
        self.drop_top()
        return "over"

    def goes_on(self, row):
        """Whether a word of this row, over the unknown, goes on with the last take."""
        if not self.takes or self.takes[-1].row < 0:
            return False
        return level_of(self.language, self.takes[-1].row) <= level_of(self.language, row)

    def hang(self, at, root, line):
        """The operand comes to hang under word at; what is made of it has this root and line."""
        self.links.append((self.word, at))
        self.word = root
        if not self.reckons:
            return
        if self.is_of_take():
            self.worth = line_of_line(self.language, line, self.worth)
        else:
            self.worth = on_line(self.language, line, self.worth)

    def hang_waiting(self, at, sheet):
        """The operand comes to hang under word at, whose root waits: tells the worth of that root."""
        self.links.append((self.word, at))
        if not self.reckons:
            return None
        if self.is_of_take():
            return left_line(self.language, sheet, self.worth)
        return sheet_left(self.language, sheet, self.worth)

    def put(self, first, run, worth):
        """A run of the right side comes on the stack; runs that now end in it become one with it."""
        last = first + run.width
        while self.joins_top(run):
            self.links.append((first, self.top))
            under, first = self.drop_top()
            if self.reckons and self.is_of_take():
                worth = right_line(self.language, under.worth, worth)
            elif self.reckons:
                worth = line_of_line(self.language, under.worth, worth)
        self.runs.append(Run(first - self.top, last - first, run.row, run.pair, worth))
        self.top = last

    def joins_top(self, run):
        """Whether the topmost run is no run of its own with this one above it."""
        if run.row < 0 or self.top_row() < 0:
            return False
        return level_of(self.language, self.top_row()) >= level_of(self.language, run.row)
