"""The examples of the interface, with the answers that stand there."""

import unittest

from allreadings.clashes import follows, gap_at, is_clash, is_drift, is_tight, is_weights, plain_settled, rank_of
from allreadings.clashes import weighed
from allreadings.corners import cut, is_mix, mix_of, plain_shape
from allreadings.fractions import ceiling_of, compare, floor_of, fraction, over, over_one_below, plus, times, total
from allreadings.fractions import whole, worth_text
from allreadings.greatest import bounds_of, drift_of, follow_of, greatest_of, is_greatest, least_of, plain_greatest
from allreadings.images import behind, bounds, greatest_face, image, moved_shape, width
from allreadings.meets import around, contains, is_within, meet, outside, sum_of_shapes
from allreadings.needless import equal, is_lean_paper, lean_paper, needless
from allreadings.outs import back_up, down_to, image_system, is_back_up, lean_down_to, pinned, put_back
from allreadings.pairing import paired, taken_out
from allreadings.parts import compare_by_parts, of_parts, parts_of, simplest, simplest_plain
from allreadings.points import apart, cut_point, middle, mixed, plain_direction, rising_points, share_between, shifted
from allreadings.rowsof import band_rows, broken_rows, moved_row, plain_row, room_at, row_of, sum_of, tidied
from allreadings.shapes import hull, is_shape, shape_of, system_of
from allreadings.solving import clash_of, has_point, point_of, settled
from allreadings.words import is_name, is_unknown, lines

BOTH = (2, [((1, 1), 4), ((-1, 0), -1), ((0, -1), -1), ((1, 0), 9)])
NONE = (1, [((2,), 1), ((-1,), -1), ((1,), 5)])
CORNER = (2, [((1, 1), 4), ((-1, 0), 0), ((0, -1), 0), ((1, -1), 1)])


class Examples(unittest.TestCase):
    def test_fractions(self):
        half = fraction(-3, -6)
        self.assertEqual(
            [half, plus(half, (1, 3)), times(half, whole(-2)), over(half, (-1, 4)), floor_of((-1, 2)),
             ceiling_of((-1, 2)), compare((2, 3), (3, 5)), over_one_below([half, (2, 3), (0, 1)]),
             worth_text((-5, 2)), total([])],
            [(1, 2), (5, 6), (-1, 1), (-2, 1), -1, 0, 1, ([3, 4, 0], 6), "-5/2", (0, 1)])

    def test_parts(self):
        self.assertEqual(
            [parts_of((-7, 3)), of_parts([-3, 1, 2]), of_parts([0, 1, 1]), compare_by_parts((1, 2), (1, 3)),
             simplest((1, 4), (2, 5)), simplest((-9, 2), (-5, 2)), simplest_plain((5, 7), (3, 4))],
            [[-3, 1, 2], (-7, 3), (1, 2), 1, (1, 3), (-3, 1), (3, 4)])

    def test_rowsof(self):
        square = (2, [((1, 0), 3), ((-2, 0), 0), ((2, 4), 6), ((1, 2), 5)])
        self.assertEqual(
            [plain_row(((0, 0), -7)), row_of([(1, 2), (-1, 3)], (1, 1)), band_rows((2,), (1, 2), (3, 1)),
             room_at(((1, 2), 5), [(1, 2), (1, 1)]), broken_rows(square, [(4, 1), (0, 1)]),
             sum_of(square, [(2, 1), (1, 1), (0, 1), (0, 1)]), moved_row(((2, 4), 6), [(1, 2), (0, 1)]),
             tidied(square)],
            [((0, 0), -1), ((3, -2), 6), [((2,), 3), ((-4,), -1)], (5, 2), [0, 2], ([(0, 1), (0, 1)], (6, 1)),
             ((2, 4), 7), (2, [((-1, 0), 0), ((1, 0), 3), ((1, 2), 3)])])

    def test_points(self):
        one, other = [(0, 1), (1, 2)], [(2, 1), (0, 1)]
        self.assertEqual(
            [mixed([one, other], [(1, 4), (3, 4)]), share_between([(1, 1), (1, 4)], one, other),
             share_between([(1, 1), (1, 1)], one, other), shifted(one, (3, -1), (1, 2)),
             plain_direction(apart(one, other)), rising_points([other, one, other]) == [one, other],
             cut_point(one, 1), middle([one])],
            [[(3, 2), (1, 8)], (1, 2), None, [(3, 2), (0, 1)], (4, -1), True, [[(0, 1)], [(1, 2)]],
             [(0, 1), (1, 2)]])

    def test_solving(self):
        self.assertEqual(
            [settled(BOTH)[0], settled(NONE)[0], point_of(NONE), clash_of(BOTH), has_point(NONE), point_of((0, [])),
             clash_of((0, [((), -3)])) is None],
            ["point", "clash", None, None, False, [], False])

    def test_clashes(self):
        tight, wide = [(1, 1), (2, 1), (0, 1)], [(10, 1), (21, 1), (1, 1)]
        self.assertEqual(
            [is_clash(NONE, tight), is_clash(NONE, wide), is_tight(NONE, tight), is_tight(NONE, wide), weighed(tight),
             rank_of([(1, 2), (2, 4), (0, 0)]), gap_at(BOTH, [(2, 1), (0, 1)], 1),
             follows(BOTH, ((2, 0), 7), [(2, 1), (0, 1), (2, 1), (0, 1)]), is_drift(BOTH, (0, 1)),
             plain_settled(BOTH)[0], is_weights([(0, 1), (-1, 2)], 2)],
            [True, True, True, False, [0, 1], 1, ((1, 1), (2, 1)), True, False, "point", False])

    def test_greatest(self):
        self.assertEqual(
            [greatest_of(BOTH, (1, 0))[:2], least_of(BOTH, (1, 0))[:2], plain_greatest(NONE, (1,))[0],
             bounds_of(BOTH, (1, -1)), bounds_of((1, [((1,), 0)]), (2,)), bounds_of(NONE, (1,)),
             is_greatest((1, [((1,), 0)]), (-1,), ("endless", [(-2, 1)], (-3,)))],
            [("worth", (3, 1)), ("worth", (1, 1)), "none", ((-2, 1), (2, 1)), (None, (0, 1)), None, True])
        self.assertEqual(
            [follow_of(BOTH, ((1, 0), 2)), follows(NONE, ((1,), -9), follow_of(NONE, ((1,), -9))),
             follow_of((1, [((0,), -1)]), ((1,), 0)), drift_of((1, [((2,), 3)])), drift_of(BOTH)],
            [None, True, None, (-1,), None])

    def test_pairing(self):
        self.assertEqual(
            [paired(((1, 1), 4), ((1, -1), 1), 1), taken_out(CORNER, 1)[0],
             taken_out((1, [((1,), 1), ((-2,), -3)]), 0)[0]],
            [((2,), 5), (1, [((-1,), 0), ((2,), 5)]), (0, [((), -1)])])

    def test_needless(self):
        row = (1, [((-1,), 0), ((1,), 4), ((2,), 5)])
        self.assertEqual(
            [needless(row), is_lean_paper(row, lean_paper(row)), equal(row, (1, [((1,), 9)]))[:2]],
            [[1], True, ("apart", 1)])

    def test_outs(self):
        self.assertEqual(
            [lean_down_to(CORNER, [0])[0], pinned(CORNER, [0], [(2, 1)])],
            [(1, [((-1,), 0), ((2,), 5)]), (1, [((1,), 2), ((0,), 0), ((-1,), 0), ((-1,), -1)])])
        self.assertEqual(
            [put_back(CORNER, [0], [(2, 1)]), put_back(CORNER, [0], [(3, 1)]), back_up(CORNER, [0], [(3, 1)])[0],
             image_system(CORNER, [(1, 1)])[0]],
            [[(2, 1), (1, 1)], None, "barred", (1, [((-1,), 0), ((1,), 4)])])
        self.assertTrue(is_back_up(CORNER, [0], [(3, 1)], back_up(CORNER, [0], [(3, 1)])))
        self.assertEqual(down_to(CORNER, [0])[0], (1, [((-1,), 0), ((2,), 5)]))

    def test_shapes(self):
        self.assertEqual(
            shape_of((1, [((2,), 3), ((-1,), 0), ((4,), 9)])),
            ("shape", 1, [((-1,), 0), ((2,), 3)], [[(0, 1)], [(3, 2)]], []))
        self.assertEqual(
            [shape_of((2, [((-2, 0), -6)])), shape_of((2, [((1, 1), 0), ((-1, -1), -1)]))],
            [("shape", 2, [((-1, 0), -3)], [[(3, 1), (0, 1)]], [(0, -1), (0, 1), (1, 0)]), ("empty", 2)])
        self.assertEqual(
            [hull(2, [[(0, 1), (2, 1)], [(0, 1), (0, 1)]], []), hull(1, [[(5, 1)]], [(-3,)]),
             system_of(("empty", 1)), is_shape(("empty", 3))],
            [("shape", 2, [((-1, 0), 0), ((0, -1), 0), ((0, 1), 2), ((1, 0), 0)],
              [[(0, 1), (0, 1)], [(0, 1), (2, 1)]], []),
             ("shape", 1, [((1,), 5)], [[(5, 1)]], [(-1,)]), (1, [((0,), -1)]), False])

    def test_corners(self):
        edge = hull(1, [[(0, 1)], [(4, 1)]], [])
        self.assertEqual(
            [plain_shape((1, [((-1,), 0), ((1,), 4)])) == edge, cut(edge, ((2,), 5)), mix_of(edge, [(1, 1)]),
             mix_of(edge, [(5, 1)]), is_mix(edge, [(4, 1)], ([(0, 1), (1, 1)], []))],
            [True, ("shape", 1, [((-1,), 0), ((2,), 5)], [[(0, 1)], [(5, 2)]], []), ([(3, 4), (1, 4)], []), None,
             True])

    def test_meets(self):
        near, far = hull(1, [[(0, 1)], [(2, 1)]], []), hull(1, [[(1, 1)]], [(1,)])
        self.assertEqual(
            [contains(near, [(3, 2)]), is_within(far, near), outside(near, near),
             meet(near, far) == hull(1, [[(1, 1)], [(2, 1)]], [])],
            [True, False, None, True])
        self.assertEqual(
            [around(near, far), sum_of_shapes(near, far)],
            [("shape", 1, [((-1,), 0)], [[(0, 1)]], [(1,)]), ("shape", 1, [((-1,), -1)], [[(1, 1)]], [(1,)])])

    def test_images(self):
        near, far = hull(1, [[(0, 1)], [(2, 1)]], []), hull(1, [[(1, 1)]], [(1,)])
        box = hull(2, [[(a, 1), (b, 1)] for a in [0, 2] for b in [0, 1]], [])
        self.assertEqual(
            [bounds(box, (1, -3)), width(box, (1, -3)), bounds(far, (2,)), width(far, (1,)),
             bounds(("empty", 2), (0, 0))],
            [((-3, 1), (2, 1)), (5, 1), ((2, 1), None), None, None])
        self.assertEqual(
            [image(box, [(1, 1)]) == hull(1, [[(0, 1)], [(3, 1)]], []), moved_shape(near, [(1, 2)]),
             greatest_face(box, (0, 0)) == box, behind(near, [(1, 1)])],
            [True, ("shape", 1, [((-2,), -1), ((2,), 5)], [[(1, 2)], [(5, 2)]], []), True,
             ("shape", 2, [((-1, -1), 0), ((1, 1), 2)], [[(0, 1), (0, 1)], [(1, 1), (1, 1)]], [(-1, 1), (1, -1)])])

    def test_words(self):
        self.assertEqual(
            [is_name("at"), is_unknown("at"), is_name("1a"), lines("x'<=3 # x\n")],
            [True, False, False, [[(0, "x"), (1, "'"), (2, "<="), (4, "3"), (9, "")], [(0, "")]]])


if __name__ == "__main__":
    unittest.main()
