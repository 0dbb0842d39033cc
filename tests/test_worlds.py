"""Worlds, sensors and readings: whether a value is one; cut, from a moment on, and moved."""

import unittest

from allreadings.allrows import all_rows
from allreadings.courses import is_allowed
from allreadings.errors import InvalidMany, MissingMoment, MissingSensor
from allreadings.fractions import plus, whole
from allreadings.worlds import is_reading, is_readings, is_sensor, is_world, readings_cut, readings_from, readings_moved
from allreadings.worlds import sensor_of, world_cut, world_from, world_moved
from tests.made import BIG, STRANGE, MadeWorlds, changed, with_bools, with_kinds
from tests.test_courses import allowed_courses

WORLD = (2, 3, [((1, 0), 3), ((0, 0), -1)], [[((1, 0, -1, 0), 0)], []],
         [("a", (1, 0), (1, 1)), ("b1", (0, -2), (0, 1))])
READS = [("r1", "a", 2, (5, 1)), ("r2", "b1", 0, (-3, 2)), ("r3", "a", 1, (0, 1))]
OTHER_KINDS = [
    (1, 1, [], [], []), (1, 2, [], [[]], []), (1, 8, [((0,), BIG)] * 8, [[((0, 0), -BIG)] * 8] * 7, []),
    (2, 1, [((0, 0), -1)] * 8, [], [(f"s{k}", (1, 1), (1, 2)) for k in range(6)]), WORLD]
NOT_WORLDS = [
    (3, 1, [], [], []), (0, 1, [], [], []), (True, 1, [], [], []), (1, True, [], [], []), (1, 0, [], [], []),
    (1, 9, [], [[]] * 8, []), (1, 2, [], [], []), (1, 2, [], [[], []], []), (1, 1, [((1,), 1)] * 9, [], []),
    (1, 2, [], [[((1, 1), 0)] * 9], []), (1, 2, [], [[((1,), 0)]], []), (1, 1, [((1, 1), 0)], [], []),
    (1, 1, (), [], []), (1, 1, [], (), []), (1, 2, [], [()], []), (1, 1, [], [], ()), [1, 1, [], [], []],
    (1, 1, [], [], [("a", (1, 1), (0, 1))]), (1, 1, [], [], [("a", (1,), (0, 1))] * 2),
    (1, 1, [], [], [(f"s{k}", (1,), (1, 2)) for k in range(7)]), (1, 1, [], [], []) + ((),), (1, 1, [], []),
    (1, 1, [], [], None), (1, 1, [None], [], []), (1, 1, [((True,), 1)], [], []), (1, 1, [((1,), False)], [], [])]


class Judges(unittest.TestCase):
    def test_sensors(self):
        for value in [("a", (1,), (0, 1)), ("abcdefgh", (-1, 0), (7, 2)), ("at", (0, BIG), (BIG, 1))]:
            self.assertIs(is_sensor(value=value), True)
            for other in [*with_bools(value), *with_kinds(value)]:
                self.assertIs(is_sensor(other), False, other)
        for value in STRANGE + [
                ("a", (0,), (0, 1)), ("a", (0, 0), (0, 1)), ("a", (), (0, 1)), ("a", (1, 1, 1), (0, 1)),
                ("a", (1,), (-1, 2)), ("a", (1,), (2, 4)), ("a", (1,), 1), ("A", (1,), (0, 1)), ("", (1,), (0, 1)),
                ("abcdefghi", (1,), (0, 1)), (1, (1,), (0, 1)), ("a", [1], (0, 1)), ("a", (1,), (0, 1), 0), "abc",
                (["a"], (1,), (0, 1)), ("a", 1, (0, 1)), ("a", ("1",), (0, 1)), ("a", (1,), None)]:
            self.assertIs(is_sensor(value), False, value)

    def test_worlds(self):
        for world in OTHER_KINDS:
            self.assertIs(is_world(value=world), True)
            for other in [*with_bools(world), *with_kinds(world)]:
                self.assertIs(is_world(other), False, other)
        for value in STRANGE + NOT_WORLDS:
            self.assertIs(is_world(value), False, value)

    def test_worlds_with_one_place_changed(self):
        for other in changed(WORLD):
            self.assertIs(is_world(other), self.may_be_world(other), other)

    def may_be_world(self, value):
        """As the document tells it, of values that are the world but for one place."""
        if not (type(value) is tuple and len(value) == 5 and type(value[0]) is int and type(value[1]) is int):
            return False
        many, moments, start, steps, sensors = value
        if many not in (1, 2) or not 1 <= moments <= 8 or [type(part) for part in value[2:]] != [list] * 3:
            return False
        if len(steps) != moments - 1 or not all(type(rows) is list for rows in steps):
            return False
        rows = [(row, many) for row in start] + [(row, 2 * many) for step in steps for row in step]
        for row, size in rows:
            if not (type(row) is tuple and len(row) == 2 and type(row[0]) is tuple and len(row[0]) == size):
                return False
            if {type(number) for number in row[0] + (row[1],)} != {int}:
                return False
        return all(is_sensor(sensor) and len(sensor[1]) == many for sensor in sensors)

    def test_readings(self):
        for reading in READS:
            self.assertIs(is_reading(world=WORLD, value=reading), True)
            for other in [*with_bools(reading), *with_kinds(reading)]:
                self.assertIs(is_reading(WORLD, other), False, other)
                self.assertIs(is_readings(WORLD, [other]), False, other)
        for value in STRANGE + [
                ("r", "c", 0, (1, 1)), ("r", "a", 3, (1, 1)), ("r", "a", -1, (1, 1)), ("r", "a", 0, (2, 2)),
                ("r", "a", 0, 1), ("r", "a", 0), ("r", "a", 0, (1, 1), 0), ("1", "a", 0, (1, 1)), ("", "a", 0, (1, 1)),
                ("r", ("a",), 0, (1, 1)), ("r", None, 0, (1, 1)), ("r", ["a"], 0, (1, 1)), (["r"], "a", 0, (1, 1)),
                ("r", "a", "0", (1, 1)), ("r", "a", None, (1, 1)), ("r", "a", [0], (1, 1)), ("abcdefghi", "a", 0, (1, 1))]:
            self.assertIs(is_reading(WORLD, value), False, value)
            self.assertIs(is_readings(WORLD, [value]), False, value)
            self.assertIs(is_readings(WORLD, READS + [value]), False, value)
            if value != []:
                self.assertIs(is_readings(WORLD, value), False, value)
        self.assertIs(is_reading((1, 1, [], [], []), ("r", "a", 0, (1, 1))), False)

    def test_lists_of_readings(self):
        self.assertIs(is_readings(world=WORLD, value=READS), True)
        self.assertIs(is_readings(WORLD, []), True)
        self.assertIs(is_readings(WORLD, tuple(READS)), False)
        self.assertIs(is_readings(WORLD, READS + READS[:1]), False)
        self.assertIs(is_readings(WORLD, READS + [("r1", "a", 0, (9, 1))]), False)
        self.assertIs(is_readings(WORLD, READS + [("r4",) + READS[0][1:]]), True)
        many = [(f"r{k}", "a", 0, (1, 1)) for k in range(31)]
        self.assertIs(is_readings(WORLD, many[:30]), True)
        self.assertIs(is_readings(WORLD, many), False)


class Changed(unittest.TestCase):
    def test_sensor_of(self):
        self.assertEqual(sensor_of(world=WORLD, name="b1"), ("b1", (0, -2), (0, 1)))
        for name in ["c", "", "A"]:
            with self.assertRaises(MissingSensor) as caught:
                sensor_of(WORLD, name)
            self.assertEqual(caught.exception.name, name)

    def test_cut(self):
        many, moments, start, steps, sensors = WORLD
        self.assertEqual(world_cut(world=WORLD, many=3), WORLD)
        self.assertEqual(world_cut(WORLD, 2), (many, 2, start, steps[:1], sensors))
        self.assertEqual(world_cut(WORLD, 1), (many, 1, start, [], sensors))
        self.assertEqual(readings_cut(readings=READS, many=2), READS[1:])
        self.assertEqual([readings_cut(READS, k) for k in (1, 3, 8)], [READS[1:2], READS, READS])
        for value in [0, 4, -1, True, None, "1", (1,), [2], 9]:
            with self.assertRaises(InvalidMany) as caught:
                world_cut(WORLD, value)
            self.assertIs(caught.exception.value, value)
        for value in [0, 9, -1, True, None, "1", [2]]:
            with self.assertRaises(InvalidMany) as caught:
                readings_cut(READS, value)
            self.assertIs(caught.exception.value, value)

    def test_from(self):
        many, moments, start, steps, sensors = WORLD
        self.assertEqual(world_from(world=WORLD, moment=0), (many, 3, [], steps, sensors))
        self.assertEqual(world_from(WORLD, 1), (many, 2, [], steps[1:], sensors))
        self.assertEqual(world_from(WORLD, 2), (many, 1, [], [], sensors))
        self.assertEqual(readings_from(readings=READS, many=0), READS)
        self.assertEqual(readings_from(READS, 1), [("r1", "a", 1, (5, 1)), ("r3", "a", 0, (0, 1))])
        self.assertEqual(readings_from(READS, 2), [("r1", "a", 0, (5, 1))])
        self.assertEqual([readings_from(READS, k) for k in (3, 7)], [[], []])
        for value in [3, -1, True, False, None, "0", [0]]:
            with self.assertRaises(MissingMoment) as caught:
                world_from(WORLD, value)
            self.assertIs(caught.exception.moment, value)
        for value in [8, -1, True, False, None, "0", [0]]:
            with self.assertRaises(InvalidMany) as caught:
                readings_from(READS, value)
            self.assertIs(caught.exception.value, value)

    def test_moved(self):
        offsets = [(2, -1), (0, 5), (BIG, 0)]
        self.assertEqual(
            world_moved(world=WORLD, offsets=offsets),
            (2, 3, [((1, 0), 5), ((0, 0), -1)], [[((1, 0, -1, 0), 2)], []], WORLD[4]))
        self.assertEqual(
            readings_moved(world=WORLD, readings=READS, offsets=offsets),
            [("r1", "a", 2, (BIG + 5, 1)), ("r2", "b1", 0, (1, 2)), ("r3", "a", 1, (0, 1))])
        # The rows are not made plain.
        world = (1, 2, [((2,), 2)], [[((2, -4), 6)]], [])
        self.assertEqual(world_moved(world, [(1,), (-1,)]), (1, 2, [((2,), 4)], [[((2, -4), 12)]], []))

    def test_made(self):
        made = MadeWorlds(31)
        allowed = 0
        for _ in range(150):
            world = made.world()
            readings = made.readings(world, made.number(0, 3))
            before = repr((world, readings))
            offsets = [made.numbers(world[0], 9) for _ in range(world[1])]
            moved, moved_readings = world_moved(world, offsets), readings_moved(world, readings, offsets)
            self.assertTrue(is_world(moved) and is_readings(moved, moved_readings))
            back = [tuple(-number for number in numbers) for numbers in offsets]
            self.assertEqual(world_moved(moved, back), world)
            self.assertEqual(readings_moved(moved, moved_readings, back), readings)
            at = made.number(0, world[1] - 1)
            cut, cut_readings = world_cut(world, at + 1), readings_cut(readings, at + 1)
            late, late_readings = world_from(world, at), readings_from(readings, at)
            for part, part_readings in [(cut, cut_readings), (late, late_readings)]:
                self.assertTrue(is_world(part) and is_readings(part, part_readings))
                self.assertEqual(all_rows(part, part_readings)[0], part[0] * part[1])
            for course in allowed_courses(made, world, readings, 6):
                there = [[plus(a, whole(number)) for a, number in zip(stand, numbers)]
                         for stand, numbers in zip(course, offsets)]
                is_one = is_allowed(world, readings, course)
                allowed += is_one
                self.assertIs(is_allowed(moved, moved_readings, there), is_one)
                if is_one:
                    self.assertTrue(is_allowed(cut, cut_readings, course[:at + 1]))
                    self.assertTrue(is_allowed(late, late_readings, course[at:]))
            self.assertEqual(repr((world, readings)), before)
        self.assertGreater(allowed, 200)


if __name__ == "__main__":
    unittest.main()
