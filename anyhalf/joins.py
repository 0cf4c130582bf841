"""Halves joined: what the words of both do in a row ([15])."""

from anyhalf.checks import WORDS_MOST
from anyhalf.errors import TooMany
from anyhalf.halves import Half
from anyhalf.seams import Seam
from anyhalf.sides import Links, Run, Side, Take, faulty_side


def joined(language, one, two):
    """The half of the words of one with those of two behind them."""
    many = one.many + two.many
    if many > WORDS_MOST:
        raise TooMany(many)
    # Joined to no words a half is as it was; so the depth of its links is that of its words at most.
    if one.many == 0:
        return two
    if two.many == 0:
        return one
    fresh = joined_side(language, one.fresh, two, one.many)
    held = joined_side(language, one.held, two, one.many)
    return Half(many, fresh, held)


def joined_side(language, one, half, shift):
    """A side that has words, and behind it the side of the half that goes on from its end."""
    if one.fault:
        return one
    two = half.fresh if one.wanted else half.held
    seam = Seam(language, one, language.reckoning is not None and not two.fault)
    if one.wanted:
        enter_fresh(seam, two, shift)
    fate, used, at = read_takes(seam, two, shift)
    if fate not in ("over", "new"):
        return faulty_side(fate, at, one.takes, one.last_take)
    side = Side(two.wanted)
    if fate == "over":
        keep_takes(side, one)
        put_runs(side, seam, two, shift, at)
    else:
        add_takes(side, seam, one, two, shift, used, at)
        keep_runs(side, two, shift)
    if two.fault:
        return faulty_side(two.fault[0], two.fault[1] + shift, side.takes, side.last_take)
    side.links = Links(one.links, two.links, shift, tuple(seam.links))
    return side


def enter_fresh(seam, two, shift):
    """The operand that a fresh side brings: that of its first take, or the one at its end."""
    if two.takes:
        seam.word = two.start + shift
        seam.worth = two.start_worth
    else:
        seam.word = shifted(two.done, shift)
        seam.worth = two.done_worth


def read_takes(seam, two, shift):
    """Read the takes of the right side, as long as they do not reach beyond the left one.

    Tells "over" if all are read, "new" if one makes a new take, else the kind of a
    fault; then the number of that take among the takes, and that of its word.
    """
    at = shift
    last = len(two.takes) - 1
    for number, take in enumerate(two.takes):
        at += take.gap
        fate = seam.met(take, at)
        if fate != "over":
            return fate, number, at
        if number < last:
            seam.hang(at, at + take.width, take.line)
        elif not two.runs:
            seam.hang(at, shifted(two.done, shift), two.done_worth)
    return "over", last + 1, at


def keep_takes(side, one):
    """The takes of the left side are all that there are."""
    side.takes = one.takes
    side.last_take = one.last_take
    side.start = one.start
    side.start_worth = one.start_worth


def put_runs(side, seam, two, shift, at):
    """The runs of the right side, whose last take is at `at`, come on what the left one leaves."""
    side.done = seam.word
    side.done_worth = seam.worth
    if two.runs:
        lowest = two.runs[0]
        worth = seam.hang_waiting(at, lowest.worth) if two.takes else lowest.worth
        seam.put(shift + lowest.gap, lowest, worth)
        seam.top = shift + two.top
        side.done = shifted(two.done, shift)
        side.done_worth = two.done_worth
    side.runs = tuple(seam.runs) + two.runs[1:]
    side.top = seam.top


def add_takes(side, seam, one, two, shift, used, at):
    """The takes of the right side from number `used` on come behind those of the left one."""
    take = two.takes[used]
    first = Take(at - one.last_take, take.row, take.pair, take.width, take.line)
    if one.takes:
        last = one.takes[-1]
        ended = Take(last.gap, last.row, last.pair, seam.word - one.last_take, seam.worth)
        before = one.takes[:-1] + (ended,)
        side.start = one.start
        side.start_worth = one.start_worth
    else:
        before = ()
        side.start = seam.word
        side.start_worth = seam.worth
    side.takes = before + (first,) + two.takes[used + 1:]
    side.last_take = shift + two.last_take


def keep_runs(side, two, shift):
    """The runs of the right side are all that there are."""
    side.done = shifted(two.done, shift)
    side.done_worth = two.done_worth
    if two.runs:
        lowest = two.runs[0]
        run = Run(lowest.gap + shift, lowest.width, lowest.row, lowest.pair, lowest.worth)
        side.runs = (run,) + two.runs[1:]
        side.top = shift + two.top


def shifted(number, shift):
    """The number of a word behind so many others; -1 stays."""
    return number + shift if number >= 0 else -1
