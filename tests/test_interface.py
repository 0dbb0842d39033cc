"""The interface: each function stands in its file, with the parameters told; results are new."""

import importlib
import inspect
import unittest

from allreadings import clashes, corners, greatest, images, meets, needless, outs, pairing, points, rowsof, shapes
from allreadings import solving
from tests.test_shapes import KINDS

TOLD = {
    "basics": "is_integer(value) is_count(value)",
    "fractions": "is_fraction(value) fraction(above,below) whole(number) plus(a,b) minus(a,b) times(a,b) opposite(a)"
                 " over(a,b) compare(a,b) sign_of(a) floor_of(a) ceiling_of(a) least(fractions) greatest(fractions)"
                 " total(fractions) over_one_below(fractions) worth_text(a)",
    "parts": "parts_of(a) of_parts(parts) compare_by_parts(a,b) simplest(low,high) simplest_plain(low,high)",
    "rowsof": "is_row(value,many) is_system(value) is_plain(row) is_false(row) is_idle(row) plain_row(row)"
              " row_of(fractions,most) band_rows(numbers,low,high) worth_at(numbers,point) room_at(row,point)"
              " keeps(row,point) broken_rows(system,point) sum_of(system,weights) sum_by_one_below(system,weights)"
              " placed_row(row,ahead,behind) moved_row(row,shift) joined_system(system,other_system) tidied(system)",
    "points": "is_point(value,many) is_shares(value,many) compare_points(point,other) rising_points(points)"
              " mixed(points,shares) middle(points) share_between(point,one,other) shifted(point,numbers,amount)"
              " apart(point,other) plain_direction(fractions) joined_points(points) cut_point(point,many)",
    "solving": "settled(system) point_of(system) clash_of(system) has_point(system)",
    "clashes": "is_clash(system,value) is_tight(system,value) follows(system,row,value) is_drift(system,value)"
               " is_weights(value,many) weighed(weights) rank_of(rows) gap_at(system,point,place)"
               " plain_settled(system)",
    "greatest": "greatest_of(system,numbers) plain_greatest(system,numbers) least_of(system,numbers)"
                " is_greatest(system,numbers,value) bounds_of(system,numbers) follow_of(system,row) drift_of(system)",
    "pairing": "paired(upper,lower,place) taken_out(system,place)",
    "needless": "needless(system) lean_paper(system) is_lean_paper(system,value) equal(system,other)"
                " is_equal_paper(system,other,value)",
    "outs": "down_to(system,places) lean_down_to(system,places) put_back(system,places,point)"
            " pinned(system,places,point) back_up(system,places,point) is_back_up(system,places,point,value)"
            " image_system(system,forms)",
    "shapes": "is_shape(value) empty_shape(many) whole_shape(many) hull(many,points,directions) shape_of(system)"
              " system_of(shape)",
    "corners": "plain_shape(system) cut(shape,row) mix_of(shape,point) is_mix(shape,point,value)",
    "meets": "contains(shape,point) is_within(shape,other) outside(shape,other) meet(shape,other)"
             " around(shape,other) sum_of_shapes(shape,other)",
    "images": "image(shape,forms) behind(shape,forms) moved_shape(shape,point) bounds(shape,numbers)"
              " width(shape,numbers) greatest_face(shape,numbers)",
    "words": "is_name(value) is_unknown(value) lines(text)",
}


class Interface(unittest.TestCase):
    def test_names_and_parameters(self):
        for file, functions in TOLD.items():
            module = importlib.import_module("allreadings." + file)
            for told in functions.split():
                name, parameters = told[:-1].split("(")
                function = getattr(module, name)
                self.assertEqual(function.__module__, "allreadings." + file, name)
                self.assertEqual(list(inspect.signature(function).parameters), parameters.split(","), name)


def lists_within(value):
    """All lists in a value."""
    if isinstance(value, list):
        yield value
    if isinstance(value, (list, tuple)):
        for part in value:
            yield from lists_within(part)


SYSTEM = (2, [((1, 1), 4), ((-1, 0), 0), ((0, -1), 0), ((2, 2), 8)])
CLASHING = (2, [((1, 1), 4), ((-1, 0), -3), ((0, -1), -3)])
POINT = [(1, 1), (1, 2)]
SHAPE = KINDS["triangle"][1]
STRIP = KINDS["strip"][1]

CALLS = [
    (rowsof.sum_of, SYSTEM, [(1, 1)] * 4), (rowsof.sum_by_one_below, SYSTEM, [(1, 1)] * 4),
    (rowsof.joined_system, SYSTEM, (2, [])), (rowsof.joined_system, (2, []), SYSTEM), (rowsof.tidied, SYSTEM),
    (rowsof.tidied, (2, [((1, 0), 0)])), (rowsof.broken_rows, SYSTEM, POINT), (rowsof.moved_row, SYSTEM[1][0], POINT),
    (points.rising_points, [POINT]), (points.mixed, [POINT], [(1, 1)]), (points.middle, [POINT]),
    (points.shifted, POINT, (0, 0), (1, 1)), (points.apart, POINT, POINT), (points.joined_points, [POINT]),
    (points.cut_point, POINT, 2), (points.cut_point, POINT, 1), (points.share_between, POINT, POINT, [(0, 1), (0, 1)]),
    (solving.settled, SYSTEM), (solving.settled, CLASHING), (clashes.plain_settled, SYSTEM),
    (clashes.plain_settled, CLASHING), (clashes.gap_at, SYSTEM, POINT, 1), (greatest.greatest_of, SYSTEM, (1, 2)),
    (greatest.greatest_of, CLASHING, (1, 2)), (greatest.greatest_of, SYSTEM, (0, 0)),
    (greatest.plain_greatest, SYSTEM, (1, 2)), (greatest.least_of, SYSTEM, (1, 2)),
    (greatest.follow_of, SYSTEM, ((1, 0), 9)), (greatest.follow_of, CLASHING, ((1, 0), 9)),
    (pairing.taken_out, SYSTEM, 1), (needless.needless, SYSTEM), (needless.lean_paper, SYSTEM),
    (needless.lean_paper, CLASHING), (needless.equal, SYSTEM, SYSTEM), (needless.equal, CLASHING, CLASHING),
    (needless.equal, SYSTEM, CLASHING), (outs.down_to, SYSTEM, [0, 1]), (outs.lean_down_to, SYSTEM, [0]),
    (outs.put_back, SYSTEM, [0, 1], POINT), (outs.put_back, SYSTEM, [0], POINT[:1]),
    (outs.pinned, SYSTEM, [], []), (outs.pinned, SYSTEM, [0], POINT[:1]), (outs.back_up, SYSTEM, [0, 1], POINT),
    (outs.back_up, CLASHING, [0, 1], POINT), (outs.image_system, SYSTEM, [(1, 0), (0, 1)]),
    (shapes.shape_of, SYSTEM), (shapes.shape_of, (2, SHAPE[2])), (shapes.system_of, SHAPE),
    (shapes.hull, 2, SHAPE[3], SHAPE[4]), (shapes.hull, 2, STRIP[3], STRIP[4]), (corners.plain_shape, (2, SHAPE[2])),
    (corners.cut, SHAPE, ((0, 0), 0)), (corners.mix_of, SHAPE, POINT), (corners.mix_of, STRIP, [(1, 1), (1, 1)]),
    (meets.outside, SHAPE, ("empty", 2)), (meets.outside, STRIP, SHAPE), (meets.meet, SHAPE, SHAPE),
    (meets.meet, SHAPE, ("empty", 2)), (meets.around, SHAPE, ("empty", 2)), (meets.around, SHAPE, STRIP),
    (meets.sum_of_shapes, SHAPE, STRIP), (images.image, SHAPE, [(1, 0), (0, 1)]),
    (images.behind, SHAPE, [(1, 0), (0, 1)]), (images.moved_shape, SHAPE, [(0, 1), (0, 1)]),
    (images.greatest_face, SHAPE, (0, 0)), (images.bounds, SHAPE, (1, 2)),
]


class NewLists(unittest.TestCase):
    def test_results_are_new_and_arguments_stay(self):
        for function, *arguments in CALLS:
            before = repr(arguments)
            told = function(*arguments)
            self.assertEqual(repr(arguments), before, function)
            given = {id(part) for part in lists_within(tuple(arguments))}
            found = [id(part) for part in lists_within(told)]
            self.assertFalse(any(part in given for part in found), function)
            self.assertEqual(len(set(found)), len(found), function)
            again = function(*arguments)
            self.assertEqual(again, told, function)
            first = {id(part) for part in lists_within(told)}
            self.assertFalse(any(id(part) in first for part in lists_within(again)), function)

    def test_changed_results_change_nothing(self):
        told = shapes.whole_shape(2)
        told[2].append(1)
        told[3][0].append(1)
        told[4].clear()
        self.assertEqual(shapes.whole_shape(2), KINDS["plane"][1])
        shape = shapes.shape_of((2, SHAPE[2]))
        system = shapes.system_of(shape)
        system[1].clear()
        self.assertEqual(shape, SHAPE)


if __name__ == "__main__":
    unittest.main()
