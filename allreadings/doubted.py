"""What can be told when some sensors may be wrong: standings of sensors, spreads, and sayings."""

from allreadings.allrows import all_rows
from allreadings.choosing import all_choices, check_wrong, choice_paper, fitting_choices
from allreadings.meets import is_within
from allreadings.outlines import outline
from allreadings.tables import kept_by, paper_in_doubt
from allreadings.worlds import check_moment


def sensor_standing(world, readings, most, sensor):
    """The STANDING of the sensor."""
    return standing_shown(sensor_papers(world, readings, most, sensor))


def sensor_papers(world, readings, most, sensor):
    """The papers of its standing: with the sensor in never, and with it in must."""
    never = choice_paper(world, readings, most, [], [sensor], [])
    return (never, choice_paper(world, readings, most, [sensor], [], []))


def standing_shown(papers):
    """The STANDING that two papers show."""
    right, wrong = papers
    if right[0] == "choice":
        return "open" if wrong[0] == "choice" else "right"
    return "wrong" if wrong[0] == "choice" else "none"


def spread(world, readings, most, moment):
    """The SPREAD, by all fitting choices."""
    check_wrong(most)
    check_moment(world, moment)
    told = _sets_of_choices(world, readings, fitting_choices(world, readings, most), moment)
    return outermost_shapes([shape for shape, _ in told])


def spread_by_size(world, readings, most, moment):
    """The SPREAD, by the choices of one size."""
    return [shape for shape, _ in spread_told(world, readings, most, moment)]


def spread_told(world, readings, most, moment):
    """The SPREAD as a list of tuples of a shape and the first choice of one size whose set it is."""
    check_wrong(most)
    check_moment(world, moment)
    size = min(most, len(world[4]))
    choices = [choice for choice in all_choices(world, most) if len(choice) == size]
    told = _sets_of_choices(world, readings, choices, moment)
    found = []
    for shape in outermost_shapes([shape for shape, _ in told]):
        found.append([pair for pair in told if pair[0] == shape][0])
    return found


def _sets_of_choices(world, readings, choices, moment):
    """The list of tuples of the set of a choice and the choice, one for all choices that keep the same readings."""
    places = list(range(world[0] * moment, world[0] * (moment + 1)))
    told = {}
    for choice in choices:
        kept = kept_by(readings, choice)
        if tuple(kept) not in told:
            # An outline of all rows has no bound on rows, as the steps from shape to shape have.
            told[tuple(kept)] = (outline(all_rows(world, kept), places), choice)
    return list(told.values())


def outermost_shapes(shapes):
    """The sorted list of the shapes, equal ones once, without the empty ones and those contained in another one."""
    found = []
    for shape in sorted([shape for shape in shapes if shape[0] == "shape"]):
        if not found or shape != found[-1]:
            found.append(shape)
    return [shape for shape in found if not any([shape != other and is_within(shape, other) for other in found])]


def said_in_doubt(world, readings, most, row):
    """The word of the saying."""
    check_wrong(most)
    return paper_in_doubt(world, readings, most, row)[0]
