"""Questions to hands ([39])."""

from anyhalf.glue import glued
from anyhalf.outlines import outline
from anyhalf.pieceasks import reading
from anyhalf.pieces import signs_of
from anyhalf.places import place_of


def reading_of(hands):
    """The reading of the whole."""
    return reading(hands.language, whole_piece(hands))


def fault_of_hands(hands):
    """() if the whole is read, else (hand, kind, number of the word, its first sign in the whole)."""
    whole = whole_piece(hands)
    kind, number, _ = reading(hands.language, whole)
    if kind == "":
        return ()
    place = place_of(whole, number)
    return (hand_at(hands, place[0]), kind, number, place[0])


def readable(hands):
    """For each hand whether it and all hands before it can be read, entered as the hand before it ends."""
    found = []
    reads = True
    have = False
    for hand in range(len(hands.histories)):
        if reads:
            side = outline(hands.half(hand), have)
            reads = side[0] == ()
            have = not side[5]
        found.append(reads)
    return tuple(found)


def whole_piece(hands):
    """The piece of all texts in a row."""
    whole = None
    for history in hands.histories:
        whole, _ = glued(hands.language, whole, history.piece)
    return whole


def hand_at(hands, sign):
    """The hand in whose text a sign of the whole is; behind the last sign the last hand that has any, or 0."""
    found = 0
    begin = 0
    for hand, history in enumerate(hands.histories):
        signs = signs_of(history.piece)
        if signs > 0 and begin <= sign:
            found = hand
        begin += signs
    return found
