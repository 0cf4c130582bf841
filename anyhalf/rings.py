"""Papers judged: whether they tell why no language reads all lessons ([35])."""

from anyhalf.checks import is_number, is_tuple_of
from anyhalf.classes import begin_of, end_of
from anyhalf.demands import demands_of_all, made_roles

STEPS_LEAST = 2
STEPS_MOST = 50


def ring_right(rows, pairs, lessons, paper):
    """Whether a paper is a ring of demands of the lessons, with steps of 1 and of 0."""
    demanded = demands_of_all(made_roles(rows, pairs), lessons)
    if not isinstance(paper, tuple) or not STEPS_LEAST <= len(paper) <= STEPS_MOST:
        return False
    if not all([is_step(step) and step in demanded for step in paper]):
        return False
    if [end_of(step) for step in paper] != [begin_of(step) for step in paper[1:] + paper[:1]]:
        return False
    found = [step[2] for step in paper]
    return 1 in found and 0 in found


def is_step(step):
    """Whether any value is a triple of numbers."""
    return is_tuple_of(step, 3) and all([is_number(part) for part in step])
