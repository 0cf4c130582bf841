"""What a side of a half keeps of its words ([10] to [14]).

Words are numbered from the beginning of the half. So that a join need not
number all of the right side anew, takes and runs only keep how far they stand
from the take or run before; a side keeps the one number that is needed to find
the others from the end that a join works at.

Where the language has a reckoning, worths are kept too. What hangs on one
missing operand has a line as its worth, what hangs on two a sheet ([23]).
"""


class Take:
    """A word that took from the unknown, and what has been made of it.

    `row` is the row of the word and `pair` is -1, or the other way about for a
    closing bracket. `gap` is how far the word stands behind the word of the take
    before, or behind number 0. `width` is how far the root of what was made
    stands behind the word, and `line` the worth of that root as a line of what
    was taken; both are told as soon as another take comes behind this one.
    """

    def __init__(self, gap, row, pair, width=0, line=None):
        self.gap = gap
        self.row = row
        self.pair = pair
        self.width = width
        self.line = line


class Run:
    """Waiting words that leave the stack all at once, or an open bracket.

    `row` is the row of the last word and `pair` is -1, or the other way about for
    an open bracket. `gap` is how far the first word stands behind the last one of
    the run beneath, or behind number 0, and `width` how far the last word stands
    behind the first. `worth` is that of the first word as a line of the operand
    that the last one waits for; but if it is the root of a take, a sheet of what
    was taken and of that operand.
    """

    def __init__(self, gap, width, row, pair, worth):
        self.gap = gap
        self.width = width
        self.row = row
        self.pair = pair
        self.worth = worth


class Links:
    """Decided pairs (word, parent): those of two parts, and those that came by joining them.

    The pairs of the right part are numbered from its own beginning, at `shift`.
    A part is None if it has no pairs.
    """

    def __init__(self, left, right, shift, pairs):
        self.left = left
        self.right = right
        self.shift = shift
        self.pairs = pairs


class Side:
    """What the words of a half do, read from one of the two states.

    `last_take` is the number of the word of the last take, `top` that of the last
    word of the topmost run, each 0 if there is none. `start` is the root of the
    operand that was there as the first take was made, fresh, else -1. `done` is
    the root of the operand that is there at the end, else -1; if there are takes
    and no runs it is the root of the last take, and its worth a line of what was
    taken. With takes and runs the first run begins with that root.
    With a fault only the takes before it are told.
    """

    def __init__(self, wanted, fault=()):
        self.wanted = wanted
        self.fault = fault
        self.takes = ()
        self.last_take = 0
        self.runs = ()
        self.top = 0
        self.start = -1
        self.start_worth = None
        self.done = -1
        self.done_worth = None
        self.links = None


def faulty_side(kind, number, takes=(), last_take=0):
    """The side whose first fault is this one, behind these takes."""
    side = Side(False, (kind, number))
    side.takes = takes
    side.last_take = last_take
    return side


def all_links(links):
    """All decided pairs (word, parent), in any order; the parts may be nested deep."""
    found = []
    waiting = [(links, 0)]
    while waiting:
        part, shift = waiting.pop()
        if part is not None:
            found.extend([(word + shift, parent + shift) for word, parent in part.pairs])
            waiting.append((part.left, shift))
            waiting.append((part.right, shift + part.shift))
    return found
