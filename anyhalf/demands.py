"""What lessons demand of the levels of a language ([33])."""

from anyhalf.alphabet import is_word
from anyhalf.checks import check_many, is_tuple_of
from anyhalf.errors import BadLesson
from anyhalf.languages import made_language
from anyhalf.meets import met_pairs
from anyhalf.rolesof import roles_along
from anyhalf.tables import hanging
from anyhalf.treeforms import has_form

LESSONS_MOST = 60
LESSON_WORDS_MOST = 200


def made_roles(rows, pairs):
    """The language with these words and roles, all on one level."""
    return made_language(("left",), tuple([row_of_roles(row) for row in rows]), pairs)


def demands(rows, pairs, lesson):
    """The bonds that a language must have to read the lesson as told."""
    language = made_roles(rows, pairs)
    if not is_lesson(language, lesson):
        raise BadLesson(0)
    return demands_of(language, lesson)


def demands_of_all(language, lessons):
    """The demands of all lessons, under the language of their words and roles."""
    check_many(lessons, 0, LESSONS_MOST)
    for at, lesson in enumerate(lessons):
        if not is_lesson(language, lesson):
            raise BadLesson(at)
    return ascending([step for lesson in lessons for step in demands_of(language, lesson)])


def row_of_roles(row):
    """The row of a language that a roles row becomes; None, which is no row, for what is none."""
    return row + (1,) if is_tuple_of(row, 2) else None


def is_lesson(language, lesson):
    """Whether any value is a lesson."""
    if not is_tuple_of(lesson, 2) or not isinstance(lesson[0], tuple):
        return False
    words, table = lesson
    if not 1 <= len(words) <= LESSON_WORDS_MOST or not all([is_word(word) for word in words]):
        return False
    return has_form(roles_along(language, words), table, len(words))


def demands_of(language, lesson):
    """demands, for what is known to be a lesson."""
    words, table = lesson
    return ascending(met_pairs(roles_along(language, words), hanging(table)))


def ascending(steps):
    """The triples in order, none twice."""
    return tuple(sorted(set(steps)))
