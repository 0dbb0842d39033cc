"""QUESTIONS of a world, ANSWERS to them, and the GISTS of these."""

from allreadings.answers import by_paper, verdict
from allreadings.basics import is_count, is_integer, is_integers
from allreadings.copying import copied
from allreadings.courses import clash_of_all, course_of
from allreadings.doubted import sensor_papers, spread_by_size, standing_shown
from allreadings.doubtpapers import saying_paper, spread_paper
from allreadings.everywhere import set_everywhere, through
from allreadings.linears import is_saying, is_supposed, is_terms
from allreadings.points import is_fractions
from allreadings.questions import least_peak, reach
from allreadings.repairs import conflict_paper
from allreadings.rowsof import is_row
from allreadings.setpapers import set_paper
from allreadings.widening import least_extra
from allreadings.worlds import MOST_SENSORS

# What stands behind the word of a question.
PARTS = {
    "course": (),
    "set": ("moment",),
    "stand": ("moment", "stand"),
    "reach": ("terms", "supposed"),
    "peak": ("numbers", "supposed"),
    "saying": ("saying", "supposed"),
    "by": ("numbers", "lim", "supposed"),
    "conflicts": (),
    "extra": (),
    "sensor": ("wrong", "sensor"),
    "spread": ("wrong", "moment"),
    "said": ("wrong", "row"),
}


def is_question(world, value):
    """Whether any value is a QUESTION of the world."""
    if not isinstance(value, tuple) or not value or not isinstance(value[0], str) or value[0] not in PARTS:
        return False
    kinds = PARTS[value[0]]
    if len(value) != 1 + len(kinds):
        return False
    return all(_is_part(world, kind, part) for kind, part in zip(kinds, value[1:]))


def _is_part(world, kind, value):
    """Whether any value may stand in a question as a part of the kind."""
    if kind == "moment":
        return is_count(value) and value < world[1]
    if kind == "stand":
        return is_fractions(value, world[0])
    if kind == "terms":
        return is_terms(world, value)
    if kind == "saying":
        return is_saying(world, value)
    if kind == "supposed":
        return isinstance(value, list) and is_supposed(world, value)
    if kind == "numbers":
        return is_integers(value, world[0]) and any(value)
    if kind == "lim":
        return is_integer(value)
    if kind == "wrong":
        return is_count(value) and value <= MOST_SENSORS
    if kind == "sensor":
        return value in [sensor[0] for sensor in world[4]]
    return is_row(value, world[0] * world[1])


def answer_to(world, readings, question):
    """An ANSWER to the question."""
    word = question[0]
    if word == "course":
        course = course_of(world, readings)
        return ("no", clash_of_all(world, readings)) if course is None else ("yes", course)
    if word == "set":
        return (set_everywhere(world, readings, question[1]), set_paper(world, readings, question[1]))
    if word == "stand":
        return through(world, readings, question[1], question[2])
    if word == "conflicts":
        return conflict_paper(world, readings)
    if word == "extra":
        return least_extra(world, readings)
    if word in ("sensor", "spread", "said"):
        return _answer_in_doubt(world, readings, question)
    return _answer_supposing(world, readings, question)


def _answer_in_doubt(world, readings, question):
    """An answer to a question about sensors of which some may be wrong."""
    word, wrong, asked = question
    if word == "sensor":
        return sensor_papers(world, readings, wrong, asked)
    if word == "said":
        return saying_paper(world, readings, wrong, asked)
    return (spread_by_size(world, readings, wrong, asked), spread_paper(world, readings, wrong, asked))


def _answer_supposing(world, readings, question):
    """An answer to a question with linears supposed."""
    word, asked, supposed = question[0], question[1], question[-1]
    if word == "reach":
        return reach(world, readings, asked, supposed=supposed)
    if word == "peak":
        return least_peak(world, readings, asked, supposed=supposed)
    if word == "saying":
        return verdict(world, readings, asked, supposed=supposed)
    return by_paper(world, readings, asked, question[2], supposed=supposed)


def sheaf(world, readings, questions):
    """A SHEAF of answers to the questions."""
    return [answer_to(world, readings, question) for question in questions]


def gist(question, answer):
    """The GIST of the answer to the question."""
    word = question[0]
    if word == "stand":
        return "yes" if answer[0] == "course" else "no"
    if word in ("set", "spread"):
        return copied(answer[0])
    if word in ("course", "saying", "said"):
        return answer[0]
    if word == "conflicts":
        lots, repairs = answer
        return ([list(lot) for lot, _ in lots], [list(lot) for lot, _ in repairs])
    if word == "sensor":
        return standing_shown(answer)
    if answer[0] != word:
        return (answer[0],)
    if word == "reach":
        return ("reach", _worth_at_end(answer[1]), _worth_at_end(answer[2]))
    return (word, answer[1])


def _worth_at_end(told):
    """The worth of an end of a reach, None if it is without end."""
    return told[1] if told[0] == "at" else None
