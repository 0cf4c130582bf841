"""Levels found from lessons ([34])."""

from anyhalf.classes import begin_of, classes_of, end_of, way_of_steps
from anyhalf.demands import demands_of_all, made_roles
from anyhalf.languages import made_language


def taught(rows, pairs, lessons):
    """("language", the language that reads all lessons as told), or ("ring", why there is none)."""
    steps = demands_of_all(made_roles(rows, pairs), lessons)
    classes = classes_of(steps, len(rows))
    ones = demands_within(classes, steps, 1)
    noughts = demands_within(classes, steps, 0)
    for found in ones:
        if found in noughts:
            return ("ring", ring_of(steps, ones[found], noughts[found]))
    return ("language", language_of_classes(rows, pairs, classes, classes_in_order(classes, steps), noughts))


def demands_within(classes, steps, bond):
    """For each class with a demand of this bond whose two rows are in it, one such demand."""
    return {classes[step[0]]: step for step in steps if step[2] == bond and classes[step[0]] == classes[step[1]]}


def ring_of(steps, one, nought):
    """A ring with a demand of 1 and one of 0 of the same class.

    The ways between them are shortest ones, so that they have less steps than there are rows.
    """
    there = way_of_steps(steps, end_of(one), begin_of(nought))
    back = way_of_steps(steps, end_of(nought), begin_of(one))
    return (one,) + there + (nought,) + back


def language_of_classes(rows, pairs, classes, order, noughts):
    """The language with a level for each class, in this order; one with a demand of 0 within is a right one."""
    levels = tuple(["right" if found in noughts else "left" for found in order])
    levelled = [row + (order.index(found) + 1,) for row, found in zip(rows, classes)]
    return made_language(levels if levels else ("left",), tuple(levelled), pairs)


def classes_in_order(classes, steps):
    """The classes, each told by its least row, from level 1 on."""
    left = sorted(set(classes))
    order = []
    while left:
        leading = [classes[begin_of(step)] for step in steps
                   if classes[end_of(step)] in left and classes[end_of(step)] != classes[begin_of(step)]]
        free = [least for least in left if least not in leading]
        order.append(free[0])
        left.remove(free[0])
    return order
