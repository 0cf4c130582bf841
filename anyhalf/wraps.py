"""The fewest words that make a good text of a piece ([16])."""

from anyhalf.errors import NoReading
from anyhalf.languages import free_name


def wrapped(language, half):
    """The words that are missing ahead of a half and behind it."""
    name = free_name(language)
    if not half.fresh.fault:
        return missing_words(language, half.fresh, (), name)
    if not half.held.fault:
        return missing_words(language, half.held, (name,), name)
    raise NoReading(half.fresh.fault)


def missing_words(language, side, entry, name):
    """What is missing around a side that is entered behind the words of the entry."""
    wanted = (name,) if side.wanted else ()
    return (missing_openings(language, side) + entry, wanted + missing_closings(language, side))


def missing_openings(language, side):
    """The opening signs of the closing brackets that made takes, that of the last one first."""
    return tuple([language.pairs[take.pair][0] for take in side.takes[::-1] if take.pair >= 0])


def missing_closings(language, side):
    """The closing signs of the open brackets, that of the topmost one first."""
    return tuple([language.pairs[run.pair][1] for run in side.runs[::-1] if run.pair >= 0])
