"""What the sides of a half tell: their outlines and the links that are decided ([10] to [14])."""

from anyhalf.sides import all_links


def outline(half, have):
    """A side as (fault, takes, waits, start, done, wanted)."""
    side = side_of(half, have)
    return (side.fault, told_takes(side), told_waits(side), side.start, side.done, side.wanted)


def decided(half, have):
    """All decided pairs (word, parent) of a side, ascending by word."""
    return tuple(sorted(all_links(side_of(half, have).links)))


def side_of(half, have):
    """The held side of a half if an operand is there, else the fresh one."""
    return half.held if have else half.fresh


def told_takes(side):
    """A pair (word that made it, root of what it has made) for each take."""
    takes = []
    at = 0
    for take in side.takes:
        at += take.gap
        takes.append((at, -1 if side.fault else at + take.width))
    if takes:
        takes[-1] = (at, -1 if side.runs else side.done)
    return tuple(takes)


def told_waits(side):
    """A pair (first word, last word) for each run, from the bottom of the stack."""
    waits = []
    last = 0
    for run in side.runs:
        first = last + run.gap
        last = first + run.width
        waits.append((first, last))
    return tuple(waits)
