"""Whether values are ANSWERS to questions."""

from allreadings.allrows import all_rows
from allreadings.answers import is_by_paper, is_verdict
from allreadings.choosing import is_choice_paper
from allreadings.clashes import is_clash
from allreadings.courses import is_allowed
from allreadings.doubtpapers import is_saying_paper, is_spread_paper
from allreadings.everywhere import is_through
from allreadings.questions import is_least_peak, is_reach
from allreadings.repairs import is_conflict_paper
from allreadings.setpapers import is_set_paper
from allreadings.widening import is_extra_paper


def is_answer(world, readings, question, value):
    """Whether any value is an ANSWER to the question."""
    word = question[0]
    if word == "stand":
        return is_through(world, readings, question[1], question[2], value)
    if word == "conflicts":
        return is_conflict_paper(world, readings, value)
    if word == "extra":
        return is_extra_paper(world, readings, value)
    if word == "said":
        return is_saying_paper(world, readings, question[1], question[2], value)
    if word in ("course", "set", "sensor", "spread"):
        return isinstance(value, tuple) and len(value) == 2 and _is_pair(world, readings, question, value)
    return _is_answer_supposing(world, readings, question, value)


def _is_pair(world, readings, question, value):
    """Whether a tuple of any two values is an answer to a question that is answered by two."""
    word = question[0]
    first, second = value
    if word == "set":
        return is_set_paper(world, readings, question[1], first, second)
    if word == "spread":
        return is_spread_paper(world, readings, question[1], question[2], first, second)
    if word == "sensor":
        _, wrong, sensor = question
        if not is_choice_paper(world, readings, wrong, [], [sensor], [], first):
            return False
        return is_choice_paper(world, readings, wrong, [sensor], [], [], second)
    if first == "yes":
        return is_allowed(world, readings, second)
    return first == "no" and is_clash(all_rows(world, readings), second)


def _is_answer_supposing(world, readings, question, value):
    """Whether any value is an answer to a question with linears supposed."""
    word, asked, supposed = question[0], question[1], question[-1]
    if word == "reach":
        return is_reach(world, readings, asked, value, supposed=supposed)
    if word == "peak":
        return is_least_peak(world, readings, asked, value, supposed=supposed)
    if word == "saying":
        return is_verdict(world, readings, asked, value, supposed=supposed)
    return is_by_paper(world, readings, asked, question[2], value, supposed=supposed)


def first_unfit(world, readings, questions, answers):
    """The place of the first question beside which no answer to it stands, None if there is none."""
    for place, question in enumerate(questions):
        if not is_answer(world, readings, question, answers[place]):
            return place
    return None
