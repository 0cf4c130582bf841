"""Pieces as nested tuples, by the words of the document ([18] to [20]): a leaf is a text, a pair a tuple of two."""

from anyhalf.glue import glued
from anyhalf.pieces import Piece
from anyhalf.scraps import made_scrap
from tests.common import scrap_told


def high(model):
    return 0 if isinstance(model, str) else 1 + max(high(model[0]), high(model[1]))


def text_in(model):
    if model is None:
        return ""
    return model if isinstance(model, str) else text_in(model[0]) + text_in(model[1])


def built_model(text):
    return built_leaves([text[at:at + 8] for at in range(0, len(text), 8)])


def built_leaves(leaves):
    if len(leaves) < 2:
        return leaves[0] if leaves else None
    cut = (len(leaves) + 1) // 2
    return (built_leaves(leaves[:cut]), built_leaves(leaves[cut:]))


def glued_model(one, two):
    """The piece and made."""
    if one is None or two is None:
        return (two if one is None else one), 0
    if abs(high(one) - high(two)) <= 1:
        return (one, two), 1
    if high(one) > high(two):
        t, made = glued_model(one[1], two)
        if high(t) <= high(one[0]) + 1:
            return (one[0], t), made + 1
        if high(t[0]) <= high(t[1]):
            return ((one[0], t[0]), t[1]), made + 2
        return ((one[0], t[0][0]), (t[0][1], t[1])), made + 3
    t, made = glued_model(one, two[0])
    if high(t) <= high(two[1]) + 1:
        return (t, two[1]), made + 1
    if high(t[1]) <= high(t[0]):
        return (t[0], (t[1], two[1])), made + 2
    return ((t[0], t[1][0]), (t[1][1], two[1])), made + 3


def parted_model(model, at):
    """Both pieces and made."""
    if at == 0:
        return None, model, 0
    if at == len(text_in(model)):
        return model, None, 0
    if isinstance(model, str):
        return model[:at], model[at:], 2
    left, right = model
    if at <= len(text_in(left)):
        x, y, made = parted_model(left, at)
        behind, more = glued_model(y, right)
        return x, behind, made + more
    x, y, made = parted_model(right, at - len(text_in(left)))
    ahead, more = glued_model(left, x)
    return ahead, y, made + more


def replaced_model(model, at, gone, text):
    """The piece and made."""
    ahead, rest, first = parted_model(model, at)
    _, behind, second = parted_model(rest, gone)
    new = built_model(text)
    leaves = (len(text) + 7) // 8
    front, third = glued_model(ahead, new)
    whole, fourth = glued_model(front, behind)
    return whole, first + second + max(0, 2 * leaves - 1) + third + fourth


def model_of(piece):
    """A piece as a model."""
    if piece is None or piece.high == 0:
        return piece and piece.text
    return (model_of(piece.left), model_of(piece.right))


def check_piece(case, language, piece):
    """Check the attributes of each node of a piece."""
    waiting = [] if piece is None else [piece]
    while waiting:
        node = waiting.pop()
        case.assertIs(type(node), Piece)
        text = text_in(model_of(node))
        case.assertEqual(node.signs, len(text))
        case.assertEqual(scrap_told(language, node.scrap), scrap_told(language, made_scrap(language, text)))
        if node.high == 0:
            case.assertEqual((node.left, node.right, node.text), (None, None, text))
            case.assertTrue(1 <= len(text) <= 8)
        else:
            case.assertIsNone(node.text)
            case.assertEqual(node.high, 1 + max(node.left.high, node.right.high))
            case.assertLessEqual(abs(node.left.high - node.right.high), 1)
            waiting += [node.left, node.right]


def glued_leaves(draw, language, leaves):
    """The piece of some leaves, glued in a drawn order, so that heights differ much."""
    pieces = list(leaves)
    while len(pieces) > 1:
        at = draw.choice((0, draw.randrange(len(pieces) - 1)))
        pieces[at:at + 2] = [glued(language, pieces[at], pieces[at + 1])[0]]
    return pieces[0] if pieces else None
