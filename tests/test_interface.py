"""The interface: each function stands in its file, with the parameters told; results are new."""

import importlib
import inspect
import unittest

from allreadings import allrows, answering, answers, arrivals, backwards, choosing, clashes, conflicts, corners, courses, desks
from allreadings import deskhouse, doubted, doubtpapers, everywhere, forwards, greatest, hitting, images, keeping, linears, meets
from allreadings import needless, outlines, outs, pairing, plainly, plans, points, questions, reader, repairs, rowsof, setpapers
from allreadings import shapes, solving, stepping, thinning, watches, widening, worlds, writer
from tests.test_shapes import KINDS

TOLD = {
    "basics": "is_integer(value) is_count(value)",
    "fractions": "is_fraction(value) fraction(above,below) whole(number) plus(a,b) minus(a,b) times(a,b) opposite(a)"
                 " over(a,b) compare(a,b) sign_of(a) floor_of(a) ceiling_of(a) least(fractions) greatest(fractions)"
                 " total(fractions) over_one_below(fractions) worth_text(a)",
    "parts": "parts_of(a) of_parts(parts) compare_by_parts(a,b) simplest(low,high) simplest_plain(low,high)",
    "rowsof": "is_row(value,many) is_system(value) is_plain(row) is_false(row) is_idle(row) plain_row(row)"
              " row_of(fractions,most) band_rows(numbers,low,high) worth_at(numbers,point) room_at(row,point)"
              " keeps(row,point) broken_rows(system,point) sum_of(system,weights) sum_by_one_below(system,weights)"
              " placed_row(row,ahead,behind) moved_row(row,shift) joined_system(system,other_system) tidied(system)",
    "points": "is_point(value,many) is_shares(value,many) compare_points(point,other) rising_points(points)"
              " mixed(points,shares) middle(points) share_between(point,one,other) shifted(point,numbers,amount)"
              " apart(point,other) plain_direction(fractions) joined_points(points) cut_point(point,many)",
    "solving": "settled(system) point_of(system) clash_of(system) has_point(system)",
    "clashes": "is_clash(system,value) is_tight(system,value) follows(system,row,value) is_drift(system,value)"
               " is_weights(value,many) weighed(weights) rank_of(rows) gap_at(system,point,place)"
               " plain_settled(system)",
    "greatest": "greatest_of(system,numbers) plain_greatest(system,numbers) least_of(system,numbers)"
                " is_greatest(system,numbers,value) bounds_of(system,numbers) follow_of(system,row) drift_of(system)",
    "pairing": "paired(upper,lower,place) taken_out(system,place)",
    "needless": "needless(system) lean_paper(system) is_lean_paper(system,value) equal(system,other)"
                " is_equal_paper(system,other,value)",
    "outs": "down_to(system,places) lean_down_to(system,places) put_back(system,places,point)"
            " pinned(system,places,point) back_up(system,places,point) is_back_up(system,places,point,value)"
            " image_system(system,forms)",
    "shapes": "is_shape(value) empty_shape(many) whole_shape(many) hull(many,points,directions) shape_of(system)"
              " system_of(shape)",
    "corners": "plain_shape(system) cut(shape,row) mix_of(shape,point) is_mix(shape,point,value)",
    "meets": "contains(shape,point) is_within(shape,other) outside(shape,other) meet(shape,other)"
             " around(shape,other) sum_of_shapes(shape,other)",
    "images": "image(shape,forms) behind(shape,forms) moved_shape(shape,point) bounds(shape,numbers)"
              " width(shape,numbers) greatest_face(shape,numbers)",
    "words": "is_name(value) is_unknown(value) lines(text)",
    "parsing": "statements(text)",
    "beginnings": "is_beginning(words) is_statement(words) first_fault(text)",
    "reader": "read_sheet(text) is_sheet_text(value) arrivals(text) tell_one(first,second)",
    "writer": "form_text(names,numbers) statement_texts(sheet) write_sheet(sheet) tidy_text(text)",
    "worlds": "is_sensor(value) is_world(value) is_reading(world,value) is_readings(world,value) sensor_of(world,name)"
              " world_cut(world,many) readings_cut(readings,many) world_from(world,moment)"
              " readings_from(readings,many) world_moved(world,offsets) readings_moved(world,readings,offsets)",
    "allrows": "reading_rows(world,reading) all_rows(world,readings) row_labels(world,readings) course_point(course)"
               " point_course(world,point) at_moment(world,moment,numbers)",
    "courses": "is_course(world,value) is_allowed(world,readings,value) fault_of(world,readings,course)"
               " course_of(world,readings) clash_of_all(world,readings) named_clash(world,readings)"
               " is_named_clash(world,readings,value) blamed_labels(clash) set_at(world,readings,moment)",
    "outlines": "outline(system,places) outline_plain(system,places) outline_paper(system,places)"
                " is_outline_paper(value,system,places,shape)",
    "stepping": "joint_system(shape,rows) turned_rows(rows) stepped(shape,rows) stepped_plain(shape,rows)"
                " stepped_back(shape,rows) led_stand(shape,rows,stand)",
    "forwards": "seen_set(world,readings,moment) before_set_plain(world,readings,moment)"
                " next_set(world,readings,moment,shape) before_set(world,readings,moment) before_sets(world,readings)"
                " ahead_set(world,readings,moment,later) course_to(world,readings,moment,stand)"
                " carried_paper(world,readings,moment) carried_papers(world,readings)",
    "backwards": "read_set(world,readings,moment) last_behind(world,readings) behind_one(world,readings,moment,shape)"
                 " behind_set(world,readings,moment) behind_sets(world,readings) behind_plain(world,readings,moment)"
                 " behind_sums(world,readings,moment) late_course(world,readings,moment,stand)"
                 " is_late_course(world,readings,moment,stand,value)",
    "everywhere": "set_everywhere(world,readings,moment) sets_everywhere(world,readings)"
                  " sets_returning(world,readings) sets_onwards(world,readings) set_sums(world,readings,moment)"
                  " course_through(world,readings,moment,stand) through(world,readings,moment,stand)"
                  " is_through(world,readings,moment,stand,value)",
    "setpapers": "level_world(world) level_readings(readings) is_move(world,readings,value)"
                 " move_through(world,readings,moment,direction) set_paper(world,readings,moment)"
                 " plain_set_paper(world,readings,moment) is_set_paper(world,readings,moment,shape,value)"
                 " papers_everywhere(world,readings) is_everywhere(world,readings,shapes,value)",
    "arrivals": "is_arrival(world,value) are_arrivals(world,value) first_taken(arrivals) state_in(arrivals,label)"
                " standing_readings(arrivals) settled_arrivals(arrivals) merged(arrivals,others)"
                " lacking(arrivals,others) lateness(arrivals) greatest_heard(arrivals)",
    "keeping": "keeper_of(world,arrivals) told_from_nothing(world,arrivals,moment)",
    "linears": "is_terms(world,value) is_linear(world,value) is_saying(world,value) is_supposed(world,value)"
               " form_numbers(world,terms) linear_row(world,linear) linears_at(numbers,most,first,last)"
               " form_worth(terms,course) peak_worth(numbers,course) keeps_linear(linear,course)"
               " keeps_saying(saying,course)",
    "conflicts": "lot_of(readings,labels) readings_of(readings,lot) other_lot(readings,lot) lot_holds(world,readings,lot)"
                 " lot_paper(world,readings,lot) is_lot_paper(world,readings,lot,value) is_least_lot(world,readings,lot)"
                 " least_paper(world,readings,lot) is_least_paper(world,readings,lot,value)"
                 " left_lot(world,readings,lot) lot_by_papers(world,readings,lot) least_lots_plain(world,readings)",
    "hitting": "is_family(value) hits(lot,family) thinned_family(family) least_hitting_plain(family)"
               " least_hitting(family)",
    "repairs": "is_repair(world,readings,lot) lots_and_repairs(world,readings) fewest_repairs(world,readings)"
               " conflict_paper(world,readings) is_conflict_paper(world,readings,value)",
    "widening": "raised_world(world,extra) widened(world,readings) least_extra(world,readings)"
                " is_extra_paper(world,readings,value)",
    "choosing": "is_choice(world,value) all_choices(world,most) kept_readings(readings,choice)"
                " fits(world,readings,choice) fitting_choices(world,readings,most) fitting_by_least(world,readings,most)"
                " least_choices(world,readings) least_wrong(world,readings) blamed_sensors(world,readings,weights)"
                " is_table(world,readings,most,must,never,rows,goal,value)"
                " choice_paper(world,readings,most,must,never,rows)"
                " is_choice_paper(world,readings,most,must,never,rows,value)",
    "doubted": "sensor_standing(world,readings,most,sensor) sensor_papers(world,readings,most,sensor)"
               " spread(world,readings,most,moment) spread_by_size(world,readings,most,moment)"
               " said_in_doubt(world,readings,most,row)",
    "doubtpapers": "spread_paper(world,readings,most,moment) is_spread_paper(world,readings,most,moment,shapes,value)"
                   " saying_paper(world,readings,most,row) is_saying_paper(world,readings,most,row,value)",
    "watches": "ruling(world,readings,claim) is_ruling(world,readings,claim,value) watched(world,readings,claim)"
               " watch_paper(world,readings,claim) is_watch_paper(world,readings,claim,value)",
    "plans": "width_of(world,readings,numbers) width_behind(world,readings,pick,worths,numbers)"
             " twin_rows(world,readings,pick) middle_worths(world,pick,course,other)"
             " worst_width(world,readings,pick,numbers) plan_list(world,readings,numbers)"
             " best_pick(world,readings,numbers,many) is_worst_paper(world,readings,pick,numbers,value)",
    "thinning": "news(world,readings,label) is_news(world,readings,label,value) quiet_labels(world,readings)"
                " thin_paper(world,readings,lot) is_thin_paper(world,readings,lot,value) thinned_plain(world,readings)"
                " thinned(world,readings) thinned_to(world,readings,numbers,loss)",
    "answering": "is_question(world,value) answer_to(world,readings,question) sheaf(world,readings,questions)"
                 " gist(question,answer)",
    "judging": "is_answer(world,readings,question,value) first_unfit(world,readings,questions,answers)",
    "plainly": "plain_gist(world,readings,question)",
    "desks": "is_letter(world,value) know_same(one,other) exchange(one,other)",
    "commands": "is_command(value) is_deed(command)",
}

# Functions with a parameter that is passed by its name alone.
SUPPOSING = {
    "linears": "known_rows(world,readings) known_course(world,readings) is_known(world,readings,value)"
               " is_known_move(world,readings,value)",
    "questions": "reach(world,readings,terms) is_reach(world,readings,terms,value) ends(world,readings,terms)"
                 " plain_ends(world,readings,terms) highest(world,readings,numbers)"
                 " least_peak(world,readings,numbers) is_least_peak(world,readings,numbers,value)",
    "answers": "verdict(world,readings,saying) is_verdict(world,readings,saying,value) word_of(world,readings,saying)"
               " spells(world,readings,numbers,most) first_surely(world,readings,numbers,most)"
               " by_paper(world,readings,numbers,most) is_by_paper(world,readings,numbers,most,value)"
               " by_when(world,readings,numbers,most)",
}

# The classes, each with its parameters, its methods and its properties.
CLASSES = {
    (keeping.Keeper, "world"): (
        "take(arrival) hear(reading) take_back(label) take_all(arrivals) undo() state_of(label) reading_of(label)"
        " before_at(moment) behind_at(moment) told_at(moment) all_told() is_clashing() paper_at(moment) made() late()"
        " firm(most) moved_by(arrival) twin()", "world log readings"),
    (watches.Watch, "world,claim"): ("hear(reading) heard() word() ruling_now() paper()", ""),
    (desks.Desk, "name,world,fellows"): (
        "hear(reading) take_back(label) letter(fellow,most) take_letter(value) had_from(fellow) acked_by(fellow)"
        " told_at(moment) paper_at(moment)", "called world fellows roll readings"),
    (deskhouse.House, ""): (
        "do(command) do_all(commands) attempt(commands) world_at(name) arrivals_at(name) readings_at(name) note(label)"
        " status(label) gist_of(label)", "names labels log"),
}


def functions_told(told):
    """Each function of a table, with its file, its name and its parameters."""
    for file, functions in told.items():
        module = importlib.import_module("allreadings." + file)
        for words in functions.split():
            name, parameters = words[:-1].split("(")
            yield file, getattr(module, name), name, parameters.split(",")


class Interface(unittest.TestCase):
    def test_names_and_parameters(self):
        for file, function, name, parameters in functions_told(TOLD):
            self.assertEqual(function.__module__, "allreadings." + file, name)
            told = inspect.signature(function).parameters
            self.assertEqual(list(told), parameters, name)
            self.assertEqual({part.kind for part in told.values()}, {inspect.Parameter.POSITIONAL_OR_KEYWORD}, name)
            self.assertEqual({part.default for part in told.values()}, {inspect.Parameter.empty}, name)

    def test_supposed_is_passed_by_name_alone(self):
        for file, function, name, parameters in functions_told(SUPPOSING):
            self.assertEqual(function.__module__, "allreadings." + file, name)
            told = inspect.signature(function).parameters
            self.assertEqual(list(told), parameters + ["supposed"], name)
            self.assertEqual(told["supposed"].kind, inspect.Parameter.KEYWORD_ONLY, name)
            self.assertEqual(told["supposed"].default, (), name)

    def test_classes(self):
        for (kind, given), (methods, properties) in CLASSES.items():
            self.assertEqual(list(inspect.signature(kind).parameters), given.split(",") if given else [])
            for told in methods.split():
                name, parameters = told[:-1].split("(")
                method = vars(kind)[name]
                self.assertTrue(inspect.isfunction(method))
                self.assertEqual(list(inspect.signature(method).parameters), ["self"] + parameters.split(",")[:bool(
                    parameters)] + parameters.split(",")[1:], name)
            for name in properties.split():
                self.assertIsInstance(vars(kind)[name], property)
        self.assertEqual([kind.__module__ for kind, _ in CLASSES],
                         ["allreadings." + file for file in ("keeping", "watches", "desks", "deskhouse")])

    def test_passed_by_name_alone_and_static(self):
        most = inspect.signature(desks.Desk.letter).parameters["most"]
        self.assertEqual((most.kind, most.default), (inspect.Parameter.KEYWORD_ONLY, 40))
        self.assertIsInstance(vars(deskhouse.House)["again"], staticmethod)
        self.assertEqual(list(inspect.signature(deskhouse.House.again).parameters), ["commands"])


def lists_within(value):
    """All lists in a value."""
    if isinstance(value, list):
        yield value
    if isinstance(value, (list, tuple)):
        for part in value:
            yield from lists_within(part)


SYSTEM = (2, [((1, 1), 4), ((-1, 0), 0), ((0, -1), 0), ((2, 2), 8)])
CLASHING = (2, [((1, 1), 4), ((-1, 0), -3), ((0, -1), -3)])
POINT = [(1, 1), (1, 2)]
SHAPE = KINDS["triangle"][1]
STRIP = KINDS["strip"][1]

CALLS = [
    (rowsof.sum_of, SYSTEM, [(1, 1)] * 4), (rowsof.sum_by_one_below, SYSTEM, [(1, 1)] * 4),
    (rowsof.joined_system, SYSTEM, (2, [])), (rowsof.joined_system, (2, []), SYSTEM), (rowsof.tidied, SYSTEM),
    (rowsof.tidied, (2, [((1, 0), 0)])), (rowsof.broken_rows, SYSTEM, POINT), (rowsof.moved_row, SYSTEM[1][0], POINT),
    (points.rising_points, [POINT]), (points.mixed, [POINT], [(1, 1)]), (points.middle, [POINT]),
    (points.shifted, POINT, (0, 0), (1, 1)), (points.apart, POINT, POINT), (points.joined_points, [POINT]),
    (points.cut_point, POINT, 2), (points.cut_point, POINT, 1), (points.share_between, POINT, POINT, [(0, 1), (0, 1)]),
    (solving.settled, SYSTEM), (solving.settled, CLASHING), (clashes.plain_settled, SYSTEM),
    (clashes.plain_settled, CLASHING), (clashes.gap_at, SYSTEM, POINT, 1), (greatest.greatest_of, SYSTEM, (1, 2)),
    (greatest.greatest_of, CLASHING, (1, 2)), (greatest.greatest_of, SYSTEM, (0, 0)),
    (greatest.plain_greatest, SYSTEM, (1, 2)), (greatest.least_of, SYSTEM, (1, 2)),
    (greatest.follow_of, SYSTEM, ((1, 0), 9)), (greatest.follow_of, CLASHING, ((1, 0), 9)),
    (pairing.taken_out, SYSTEM, 1), (needless.needless, SYSTEM), (needless.lean_paper, SYSTEM),
    (needless.lean_paper, CLASHING), (needless.equal, SYSTEM, SYSTEM), (needless.equal, CLASHING, CLASHING),
    (needless.equal, SYSTEM, CLASHING), (outs.down_to, SYSTEM, [0, 1]), (outs.lean_down_to, SYSTEM, [0]),
    (outs.put_back, SYSTEM, [0, 1], POINT), (outs.put_back, SYSTEM, [0], POINT[:1]),
    (outs.pinned, SYSTEM, [], []), (outs.pinned, SYSTEM, [0], POINT[:1]), (outs.back_up, SYSTEM, [0, 1], POINT),
    (outs.back_up, CLASHING, [0, 1], POINT), (outs.image_system, SYSTEM, [(1, 0), (0, 1)]),
    (shapes.shape_of, SYSTEM), (shapes.shape_of, (2, SHAPE[2])), (shapes.system_of, SHAPE),
    (shapes.hull, 2, SHAPE[3], SHAPE[4]), (shapes.hull, 2, STRIP[3], STRIP[4]), (corners.plain_shape, (2, SHAPE[2])),
    (corners.cut, SHAPE, ((0, 0), 0)), (corners.mix_of, SHAPE, POINT), (corners.mix_of, STRIP, [(1, 1), (1, 1)]),
    (meets.outside, SHAPE, ("empty", 2)), (meets.outside, STRIP, SHAPE), (meets.meet, SHAPE, SHAPE),
    (meets.meet, SHAPE, ("empty", 2)), (meets.around, SHAPE, ("empty", 2)), (meets.around, SHAPE, STRIP),
    (meets.sum_of_shapes, SHAPE, STRIP), (images.image, SHAPE, [(1, 0), (0, 1)]),
    (images.behind, SHAPE, [(1, 0), (0, 1)]), (images.moved_shape, SHAPE, [(0, 1), (0, 1)]),
    (images.greatest_face, SHAPE, (0, 0)), (images.bounds, SHAPE, (1, 2)),
]


# A world of two numbers, and one of one, with readings that allow courses and some that do not.
WORLD = (2, 3, [((-1, 0), 0), ((0, -1), 0)],
         [[((-1, 0, 1, 0), 1), ((1, 0, -1, 0), 1), ((0, -1, 0, 1), 0)], [((-1, 0, 1, 0), 1)]],
         [("a", (1, 1), (1, 1)), ("b", (0, 1), (1, 2))])
READS = [("r1", "a", 1, (3, 1)), ("r2", "b", 2, (1, 2))]
AGAINST = READS + [("r3", "a", 0, (-9, 1))]
SMALL = (1, 2, [((-1,), 0)], [[((1, -1), 0), ((-1, 1), 2)]], [("a", (1,), (1, 1))])
HEARD = [("r1", "a", 1, (5, 1))]
ARRIVED = [("hear", HEARD[0]), ("back", "r2")]
STEP = [((-1, 0, 1, 0), 1), ((0, -1, 0, 1), 1)]
TEXT = "unknowns x y\nmoments 2\nstart x <= 1\nsteps x' <= y\nsensor a: x slack 1\nreading r a at 1 = 2\nask x at 0 <= 1"
SHEET = (["x", "y"], (2, 2, [((1, 0), 1)], [[((0, -1, 1, 0), 0)]], [("a", (1, 0), (1, 1))]), [("r", "a", 1, (2, 1))],
         [([(0, (1, 0))], 1)])
STAND = [(1, 1), (1, 1)]
TERMS = [(0, (1, 0)), (2, (1, 1))]


def supposing(function, *arguments):
    return function(*arguments, supposed=[([(0, (1, 0))], 5)])


CALLS = CALLS + [
    (reader.read_sheet, TEXT), (reader.arrivals, TEXT), (writer.statement_texts, SHEET),
    (worlds.world_cut, WORLD, 3), (worlds.world_cut, WORLD, 1), (worlds.world_from, WORLD, 0),
    (worlds.readings_cut, READS, 8), (worlds.readings_from, READS, 0),
    (worlds.world_moved, WORLD, [(0, 0)] * 3), (worlds.readings_moved, WORLD, READS, [(0, 0)] * 3),
    (worlds.sensor_of, WORLD, "a"), (allrows.reading_rows, WORLD, READS[0]), (allrows.all_rows, WORLD, READS),
    (allrows.row_labels, WORLD, READS), (allrows.course_point, [STAND] * 3), (allrows.course_point, [STAND]),
    (allrows.point_course, WORLD, STAND * 3), (allrows.point_course, (2, 1, [], [], []), STAND),
    (courses.course_of, WORLD, READS), (courses.clash_of_all, WORLD, AGAINST), (courses.named_clash, WORLD, AGAINST),
    (courses.set_at, WORLD, READS, 1), (courses.set_at, WORLD, AGAINST, 1), (courses.fault_of, WORLD, READS, [STAND] * 3),
    (courses.blamed_labels, [(("upper", "r2"), (1, 1))]), (outlines.outline, SYSTEM, [0]),
    (outlines.outline, SYSTEM, [0, 1]), (outlines.outline, CLASHING, [1]), (outlines.outline_plain, SYSTEM, [0, 1]),
    (outlines.outline_paper, SYSTEM, [0, 1]), (outlines.outline_paper, CLASHING, [0]),
    (outlines.outline_paper, (2, [((1, 0), 0)]), [0, 1]), (stepping.joint_system, SHAPE, STEP),
    (stepping.joint_system, ("empty", 2), []), (stepping.turned_rows, STEP), (stepping.stepped, SHAPE, STEP),
    (stepping.stepped_plain, SHAPE, STEP), (stepping.stepped_back, SHAPE, STEP),
    (stepping.led_stand, SHAPE, STEP, STAND), (forwards.seen_set, WORLD, READS, 0), (forwards.seen_set, WORLD, READS, 1),
    (forwards.before_set_plain, WORLD, READS, 2), (forwards.next_set, WORLD, READS, 1, SHAPE),
    (forwards.before_set, WORLD, READS, 2), (forwards.before_sets, WORLD, READS),
    (forwards.ahead_set, WORLD, READS, 1, 1), (forwards.ahead_set, WORLD, READS, 0, 2),
    (forwards.course_to, WORLD, READS, 2, STAND), (forwards.course_to, WORLD, READS, 0, STAND),
    (forwards.carried_paper, WORLD, READS, 2), (forwards.carried_papers, WORLD, READS),
    (forwards.carried_papers, WORLD, AGAINST), (backwards.read_set, WORLD, READS, 1),
    (backwards.last_behind, WORLD, READS), (backwards.behind_one, WORLD, READS, 0, SHAPE),
    (backwards.behind_set, WORLD, READS, 0), (backwards.behind_sets, WORLD, READS),
    (backwards.behind_plain, WORLD, READS, 0), (backwards.behind_sums, WORLD, READS, 0),
    (backwards.behind_sums, WORLD, AGAINST, 0), (backwards.late_course, WORLD, READS, 1, STAND),
    (backwards.late_course, WORLD, READS, 2, STAND), (everywhere.set_everywhere, WORLD, READS, 1),
    (everywhere.sets_everywhere, WORLD, READS), (everywhere.sets_returning, WORLD, READS),
    (everywhere.sets_onwards, WORLD, READS), (everywhere.set_sums, WORLD, READS, 1),
    (everywhere.set_sums, WORLD, AGAINST, 1), (everywhere.course_through, WORLD, READS, 1, STAND),
    (everywhere.through, WORLD, READS, 1, STAND), (everywhere.through, WORLD, AGAINST, 1, STAND),
    (setpapers.level_world, WORLD), (setpapers.level_readings, READS),
    (setpapers.move_through, WORLD, [], 1, (1, 0)), (setpapers.set_paper, WORLD, READS, 1),
    (setpapers.set_paper, WORLD, AGAINST, 1), (setpapers.plain_set_paper, WORLD, READS, 1),
    (setpapers.papers_everywhere, WORLD, READS), (setpapers.papers_everywhere, WORLD, AGAINST),
    (arrivals.standing_readings, ARRIVED), (arrivals.settled_arrivals, ARRIVED), (arrivals.merged, ARRIVED, ARRIVED),
    (arrivals.lacking, ARRIVED, []), (arrivals.lateness, ARRIVED), (keeping.told_from_nothing, SMALL, ARRIVED, 0),
    (linears.form_numbers, WORLD, TERMS), (linears.linear_row, WORLD, (TERMS, 1)), (linears.linears_at, (1, 0), 1, 0, 2),
    (linears.known_rows, WORLD, READS), (supposing, linears.known_rows, WORLD, READS),
    (supposing, linears.known_course, WORLD, READS), (supposing, questions.reach, WORLD, READS, TERMS),
    (questions.reach, WORLD, AGAINST, TERMS), (questions.ends, WORLD, READS, TERMS),
    (questions.plain_ends, WORLD, READS, TERMS), (questions.highest, WORLD, READS, (1, 0)),
    (supposing, questions.least_peak, WORLD, READS, (1, 1)), (questions.least_peak, WORLD, READS, (0, -1)),
    (questions.least_peak, WORLD, AGAINST, (1, 1)),
]

LINEARS = [(TERMS, 2), ([(1, (0, 1))], -3)]
NUMBERS = (1, 0, 0, 0, 0, 1)
FAMILY = [["a", "b"], ["b", "c"]]
DOUBTED = AGAINST + [("r4", "b", 0, (7, 1))]
SPREAD = doubted.spread(WORLD, DOUBTED, 1, 0)
PICK = [("a", 0), ("b", 2)]


def asking(question, readings=READS):
    """An answer, and the question as one of the arguments."""
    return answering.answer_to(WORLD, readings, question)


CALLS = CALLS + [
    (answers.verdict, WORLD, READS, ("all", LINEARS)), (answers.verdict, WORLD, READS, ("any", LINEARS)),
    (answers.verdict, WORLD, AGAINST, ("any", LINEARS)), (answers.verdict, WORLD, READS, ("all", [])),
    (answers.verdict, WORLD, READS, ("any", LINEARS[1:])), (supposing, answers.verdict, WORLD, READS, ("all", LINEARS)),
    (answers.spells, WORLD, READS, (1, 0), 3), (answers.by_paper, WORLD, READS, (1, 0), 3),
    (answers.by_paper, WORLD, READS, (-1, 0), 0), (answers.by_paper, WORLD, READS, (-1, -1), -1),
    (conflicts.lot_of, READS, ["r2", "r1"]), (conflicts.lot_of, READS, []), (conflicts.readings_of, READS, ["r1", "r2"]),
    (conflicts.other_lot, READS, []), (conflicts.lot_paper, WORLD, AGAINST, ["r1", "r2"]),
    (conflicts.lot_paper, WORLD, AGAINST, ["r3"]), (conflicts.least_paper, WORLD, AGAINST, ["r3"]),
    (conflicts.left_lot, WORLD, AGAINST, ["r3"]), (conflicts.lot_by_papers, WORLD, AGAINST, ["r3"]),
    (conflicts.least_lots_plain, WORLD, AGAINST), (hitting.thinned_family, FAMILY), (hitting.least_hitting, FAMILY),
    (hitting.least_hitting_plain, FAMILY), (hitting.thinned_family, [["a"]]), (repairs.lots_and_repairs, WORLD, DOUBTED),
    (repairs.fewest_repairs, WORLD, AGAINST), (repairs.conflict_paper, WORLD, DOUBTED), (widening.raised_world, WORLD, (0, 1)),
    (widening.widened, WORLD, READS), (widening.least_extra, WORLD, AGAINST), (widening.least_extra, WORLD, READS),
    (choosing.all_choices, WORLD, 2), (choosing.kept_readings, READS, []), (choosing.fitting_choices, WORLD, READS, 2),
    (choosing.fitting_by_least, WORLD, READS, 2), (choosing.least_choices, WORLD, DOUBTED),
    (choosing.blamed_sensors, WORLD, READS, [(1, 1)] * 10), (choosing.choice_paper, WORLD, READS, 1, ["a"], [], [(NUMBERS, 9)]),
    (choosing.choice_paper, WORLD, DOUBTED, 1, [], ["a"], []), (choosing.choice_paper, WORLD, READS, 0, ["a"], [], []),
    (doubted.sensor_papers, WORLD, DOUBTED, 1, "a"), (doubted.spread, WORLD, DOUBTED, 1, 0),
    (doubted.spread_by_size, WORLD, DOUBTED, 2, 0), (doubtpapers.spread_paper, WORLD, DOUBTED, 1, 0),
    (doubtpapers.spread_paper, WORLD, DOUBTED, 0, 0), (doubtpapers.saying_paper, WORLD, DOUBTED, 2, (NUMBERS, 3)),
    (doubtpapers.saying_paper, WORLD, READS, 0, (NUMBERS, 99)), (doubtpapers.saying_paper, WORLD, READS, 1, (NUMBERS, -9)),
    (doubtpapers.saying_paper, WORLD, DOUBTED, 0, (NUMBERS, -9)), (watches.ruling, WORLD, READS, (NUMBERS, 2)),
    (watches.ruling, WORLD, AGAINST, (NUMBERS, 2)), (watches.watched, WORLD, READS, (NUMBERS, 2)),
    (watches.watch_paper, WORLD, AGAINST, (NUMBERS, 2)), (watches.watch_paper, WORLD, READS, (NUMBERS, 99)),
    (plans.twin_rows, WORLD, READS, PICK), (plans.middle_worths, WORLD, PICK, [STAND] * 3, [STAND] * 3),
    (plans.worst_width, WORLD, READS, PICK, NUMBERS), (plans.worst_width, WORLD, READS, [], (0, 0, 0, 0, 0, 1)),
    (plans.worst_width, WORLD, [], [], NUMBERS), (plans.plan_list, WORLD, READS, NUMBERS),
    (plans.best_pick, WORLD, READS, NUMBERS, 1), (plans.best_pick, WORLD, READS, NUMBERS, 0),
    (thinning.news, WORLD, READS, "r1"), (thinning.news, WORLD, READS + [("r9", "b", 2, (1, 2))], "r2"),
    (thinning.news, WORLD, AGAINST, "r1"), (thinning.quiet_labels, WORLD, READS), (thinning.thin_paper, WORLD, AGAINST, ["r3"]),
    (thinning.thinned, WORLD, READS), (thinning.thinned_plain, WORLD, READS), (thinning.thinned_to, WORLD, READS, NUMBERS, (1, 1)),
    (thinning.thinned_to, WORLD, READS, (1, 1, 0, 0, 0, 0), (0, 1)),
    (asking, ("course",)), (asking, ("set", 0)), (asking, ("stand", 0, STAND)), (asking, ("reach", TERMS, LINEARS)),
    (asking, ("peak", (1, 1), LINEARS)), (asking, ("saying", ("any", LINEARS), LINEARS)), (asking, ("by", (1, 0), 3, [])),
    (asking, ("conflicts",)), (asking, ("extra",)), (asking, ("sensor", 1, "a")), (asking, ("spread", 1, 2)),
    (asking, ("said", 1, (NUMBERS, 1))), (asking, ("stand", 0, [(-1, 1), (1, 1)])), (asking, ("conflicts",), AGAINST),
    (answering.sheaf, WORLD, READS, [("set", 0), ("set", 0), ("course",)]),
    (answering.gist, ("set", 0), asking(("set", 0))), (answering.gist, ("conflicts",), asking(("conflicts",), AGAINST)),
    (answering.gist, ("spread", 1, 2), asking(("spread", 1, 2))), (plainly.plain_gist, WORLD, READS, ("set", 1)),
    (plainly.plain_gist, WORLD, READS, ("spread", 1, 1)), (plainly.plain_gist, WORLD, AGAINST, ("conflicts",)),
    (plainly.plain_gist, WORLD, READS, ("saying", ("any", LINEARS), LINEARS)),
]


class NewLists(unittest.TestCase):
    def test_results_are_new_and_arguments_stay(self):
        for function, *arguments in CALLS:
            before = repr(arguments)
            told = function(*arguments)
            self.assertEqual(repr(arguments), before, function)
            given = {id(part) for part in lists_within(tuple(arguments))}
            found = [id(part) for part in lists_within(told)]
            self.assertFalse(any(part in given for part in found), function)
            self.assertEqual(len(set(found)), len(found), function)
            again = function(*arguments)
            self.assertEqual(again, told, function)
            first = {id(part) for part in lists_within(told)}
            self.assertFalse(any(id(part) in first for part in lists_within(again)), function)

    def test_changed_results_change_nothing(self):
        told = shapes.whole_shape(2)
        told[2].append(1)
        told[3][0].append(1)
        told[4].clear()
        self.assertEqual(shapes.whole_shape(2), KINDS["plane"][1])
        shape = shapes.shape_of((2, SHAPE[2]))
        system = shapes.system_of(shape)
        system[1].clear()
        self.assertEqual(shape, SHAPE)


if __name__ == "__main__":
    unittest.main()
