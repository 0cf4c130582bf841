"""Papers as texts ([40])."""

from anyhalf.errors import BadLine
from anyhalf.numerals import NO_NUMBER, number_in

LINES_MOST = 50


def paper_text(paper):
    """The text of a paper."""
    return "\n".join([f"{t} {u} {bond}" for t, u, bond in paper])


def paper_of(text):
    """The paper that a text tells."""
    if text == "":
        return ()
    steps = []
    for at, line in enumerate(text.split("\n")):
        step = tuple([number_in(word) for word in line.split(" ")])
        if at == LINES_MOST or not is_good_step(step):
            raise BadLine(at)
        steps.append(step)
    return tuple(steps)


def is_good_step(numbers):
    """Whether the numbers of a line are a step."""
    return len(numbers) == 3 and NO_NUMBER not in numbers and numbers[2] in (0, 1)
