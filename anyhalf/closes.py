"""Halves read as whole texts ([15])."""

from anyhalf.sides import all_links


def closed(language, half):
    """The reading of the words of a half as a whole text."""
    side = half.fresh
    fault = closed_fault(side, half.many)
    if fault:
        return (fault[0], fault[1], ())
    parents = [-1] * half.many
    for word, parent in all_links(side.links) + last_links(side):
        parents[word] = parent
    return ("", -1, tuple(parents))


def closed_fault(side, many):
    """The first fault of a side over an empty stack, or ()."""
    at = 0
    for take in side.takes:
        at += take.gap
        if take.pair >= 0:
            return ("close", at)
    if side.fault:
        return side.fault
    if side.wanted:
        return ("end", many)
    return open_fault(side)


def open_fault(side):
    """The fault of the topmost open bracket on the stack, or ()."""
    top = side.top
    for run in side.runs[::-1]:
        if run.pair >= 0:
            return ("open", top)
        top -= run.width + run.gap
    return ()


def last_links(side):
    """The links that the end of the text decides: what waits there gets the operand above it."""
    links = take_links(side)
    last = 0
    for number, run in enumerate(side.runs):
        first = last + run.gap
        if number > 0:
            links.append((first, last))
        last = first + run.width
    if side.runs:
        links.append((side.done, last))
    return links


def take_links(side):
    """The links of what the takes took: over an empty stack they take all that is there."""
    links = []
    at = 0
    root = side.start
    for take in side.takes:
        at += take.gap
        links.append((root, at))
        root = at + take.width
    return links
