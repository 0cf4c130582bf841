"""Worths of halves, from what their sides keep ([24])."""

from anyhalf.closes import closed_fault
from anyhalf.errors import NoReading
from anyhalf.forms import check_reckoning, on_line, sheet_left


def worth(language, half):
    """The worth of a half that is read without a fault."""
    check_reckoning(language)
    side = half.fresh
    fault = closed_fault(side, half.many)
    if fault:
        raise NoReading(fault)
    found = side.done_worth
    if not side.takes:
        lines = [run.worth for run in side.runs]
    elif not side.runs:
        return on_line(language, found, worth_taken(language, side))
    else:
        # The first run begins with the root of the last take.
        first = sheet_left(language, side.runs[0].worth, worth_taken(language, side))
        lines = [first] + [run.worth for run in side.runs[1:]]
    for line in lines[::-1]:
        found = on_line(language, line, found)
    return found


def worth_taken(language, side):
    """The worth of what the last take takes, over an empty stack."""
    taken = side.start_worth
    for take in side.takes[:-1]:
        taken = on_line(language, take.line, taken)
    return taken
