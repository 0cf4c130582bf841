"""Pieces glued: both texts in a row, with heights balanced ([19])."""

from anyhalf.checks import check_signs_together
from anyhalf.pieces import pair_of, signs_of


def glued(language, one, two):
    """The piece of both texts in a row, and how many nodes were made."""
    check_signs_together(signs_of(one) + signs_of(two))
    if one is None:
        return (two, 0)
    if two is None:
        return (one, 0)
    if one.high > two.high + 1:
        inner, made = glued(language, one.right, two)
        whole, more = hung_right(language, one.left, inner)
        return (whole, made + more)
    if two.high > one.high + 1:
        inner, made = glued(language, one, two.left)
        whole, more = hung_left(language, inner, two.right)
        return (whole, made + more)
    return (pair_of(language, one, two), 1)


def hung_right(language, left, inner):
    """What is left of the higher piece, with what was glued to its right part."""
    if inner.high <= left.high + 1:
        return (pair_of(language, left, inner), 1)
    if inner.left.high <= inner.right.high:
        return (pair_of(language, pair_of(language, left, inner.left), inner.right), 2)
    first = pair_of(language, left, inner.left.left)
    second = pair_of(language, inner.left.right, inner.right)
    return (pair_of(language, first, second), 3)


def hung_left(language, inner, right):
    """What was glued to the left part of the higher piece, with what is right of it."""
    if inner.high <= right.high + 1:
        return (pair_of(language, inner, right), 1)
    if inner.right.high <= inner.left.high:
        return (pair_of(language, inner.left, pair_of(language, inner.right, right)), 2)
    first = pair_of(language, inner.left, inner.right.left)
    second = pair_of(language, inner.right.right, right)
    return (pair_of(language, first, second), 3)
