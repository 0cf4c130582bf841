"""Where demands lead: from which rows to which others, and the classes of rows ([34])."""


def begin_of(step):
    """The row from which a demand leads."""
    t, u, bond = step
    return t if bond == 1 else u


def end_of(step):
    """The row to which a demand leads."""
    t, u, bond = step
    return u if bond == 1 else t


def classes_of(steps, many):
    """For each of so many rows the least row of its class."""
    reached = [reached_from(steps, row) for row in range(many)]
    return [min([other for other in reached[row] if row in reached[other]]) for row in range(many)]


def reached_from(steps, row):
    """For each row to which demands lead from this one the last step of a shortest way; None for the row itself."""
    found = {row: None}
    front = [row]
    while front:
        nexts = []
        for step in steps:
            if begin_of(step) in front and end_of(step) not in found:
                found[end_of(step)] = step
                nexts.append(end_of(step))
        front = nexts
    return found


def way_of_steps(steps, begin, end):
    """The steps of a shortest way from one row to another one of its class."""
    reached = reached_from(steps, begin)
    found = []
    while reached[end] is not None:
        found.append(reached[end])
        end = begin_of(reached[end])
    return tuple(found[::-1])
