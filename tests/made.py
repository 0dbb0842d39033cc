"""Inputs made without chance: a fixed sequence of numbers for each seed, and values with one place changed."""

import math
from fractions import Fraction

from allreadings.fractions import fraction

BIG = 10 ** 30 - 1


class Made:
    """Numbers in a fixed sequence, each seed its own."""

    def __init__(self, seed):
        self.state = seed * 2654435761 + 12345

    def number(self, low, high):
        self.state = (self.state * 6364136223846793005 + 1442695040888963407) % 2 ** 64
        return low + (self.state >> 24) % (high - low + 1)

    def one_of(self, values):
        return values[self.number(0, len(values) - 1)]

    def numbers(self, many, size):
        return tuple(self.number(-size, size) for _ in range(many))

    def fraction(self, size=6):
        return fraction(self.number(-size, size), self.number(1, 4))

    def point(self, many, size=6):
        return [self.fraction(size) for _ in range(many)]

    def direction(self, many):
        while True:
            numbers = self.numbers(many, 2)
            if any(numbers):
                return numbers

    def row(self, many, size=3):
        return (self.numbers(many, size), self.number(-size, 2 * size))

    def system(self, many, count, size=3):
        """Some rows, of which some are noughts, multiples, equal or contrary to others."""
        rows = []
        for _ in range(count):
            kind = self.number(0, 7)
            if rows and kind == 0:
                rows.append(self.one_of(rows))
            elif rows and kind == 1:
                numbers, most = self.one_of(rows)
                rows.append((tuple(-2 * number for number in numbers), -2 * most + self.number(-1, 1)))
            elif rows and kind == 2:
                numbers, most = self.one_of(rows)
                rows.append((tuple(3 * number for number in numbers), 3 * most + self.number(-1, 1)))
            elif kind == 3 and self.number(0, 3) == 0:
                rows.append(((0,) * many, self.number(-1, 2)))
            else:
                rows.append(self.row(many, size))
        return (many, rows)

    def mixed_up(self, values):
        """The values in another sequence."""
        left, found = list(values), []
        while left:
            found.append(left.pop(self.number(0, len(left) - 1)))
        return found


def exact(a):
    """A FRACTION as one of Python's own."""
    return Fraction(a[0], a[1])


def told(worth):
    """One of Python's own fractions as a FRACTION."""
    return (worth.numerator, worth.denominator)


STRANGE = [
    None, True, False, 0, 1, -1, 2, 7, BIG, "", "a", "point", "worth", "shape", "empty", "none", "1/2",
    [], (), [[]], [()], ((),), ([],), [None], (None,), (0, 1), [0, 1], (1, 1), (True, 1), (0, True), (1, 0), (2, 4),
    (1, -1), [(0, 1)], [(1, 1)], [(True, 1)], [(1, True)], [[0, 1]], ((0, 1),), [(0, 1), (1, 1)], (0, 0), (0, 1, 1),
    ("point",), ("point", None), ("point", []), ("clash", []), ("none", None), ("none", []), ("worth", 1, 2, 3),
    ("endless", [], ()), ("endless", None, None), ("equal", [], []), ("apart", 0, []), ("apart", True, [(0, 1)]),
    ("barred", []), ("barred", None), ("out", []), [("out", [])], [("drift", ())], ("empty", 1), ("empty", True),
    ("empty", None), ("shape", 1, [], [], []), ("shape", 1, None, None, None), ("shape",), ([], []), ([(1, 1)], []),
    ((1,), 1), ((1, 2), 3), ((True,), 1), (1, [((1,), 1)]), (1, [((1,), True)]), (0, []), (True, []), (21, []),
]

NEST = []
for _ in range(38):
    NEST = [NEST]
STRANGE.append(NEST)
STRANGE.append((((("x",), [1]), [2]),))


def changed(value):
    """Values that differ from the value in one place: in kind, by one, in length, or a list made a tuple."""
    if isinstance(value, bool) or value is None:
        yield 0
        return
    if isinstance(value, int):
        yield value + 1
        yield value - 1
        yield None
        yield str(value)
        yield [value]
        if value in (0, 1):
            yield bool(value)
        return
    if isinstance(value, str):
        yield value + "x"
        yield None
        yield [value]
        return
    kind = type(value)
    yield None
    yield list(value) if kind is tuple else tuple(value)
    yield value + kind([0])
    yield value[:-1] if value else kind([()])
    for at, part in enumerate(value):
        for other in changed(part):
            yield kind([other if k == at else value[k] for k in range(len(value))])


def with_bools(value):
    """Values that differ from the value in that one 0 or 1 is False or True."""
    if isinstance(value, int) and not isinstance(value, bool) and value in (0, 1):
        yield bool(value)
    if isinstance(value, (list, tuple)):
        for at, part in enumerate(value):
            for other in with_bools(part):
                yield type(value)([other if k == at else value[k] for k in range(len(value))])


def with_kinds(value):
    """Values that differ from the value in that one list is a tuple, or one tuple a list."""
    if isinstance(value, (list, tuple)):
        yield tuple(value) if isinstance(value, list) else list(value)
        for at, part in enumerate(value):
            for other in with_kinds(part):
                yield type(value)([other if k == at else value[k] for k in range(len(value))])


class MadeWorlds(Made):
    """Worlds, readings and arrivals in a fixed sequence."""

    def world(self, many=None, moments=None, size=2, rows=3):
        """A world whose steps mostly let a stand move a little, some with idle, false, equal or no rows."""
        many = many or self.number(1, 2)
        moments = moments or self.number(1, 4)
        start = [self.world_row(many, size) for _ in range(self.number(0, rows))]
        steps = []
        for _ in range(moments - 1):
            kind = self.number(0, 4)
            if kind == 0:
                steps.append([self.world_row(2 * many, size) for _ in range(self.number(0, rows))])
            elif kind == 1:
                steps.append(self.drifting(many, size)[:self.number(0, 3)])
            else:
                steps.append(self.drifting(many, size))
        names = ["a", "b", "c2"][:self.number(1, 3)]
        sensors = [(name, self.direction(many), self.one_of([(0, 1), (1, 1), (1, 2), (5, 3)])) for name in names]
        return (many, moments, start, steps, sensors)

    def world_row(self, many, size):
        kind = self.number(0, 11)
        if kind == 0:
            return ((0,) * many, self.one_of([-2, 0, 3]) if self.number(0, 2) == 0 else 1)
        numbers, most = self.row(many, size)
        return (numbers, most + self.number(0, 3))

    def drifting(self, many, size):
        """Rows of a step that says how far each number of a stand goes on."""
        rows = []
        for k in range(many):
            numbers = [0] * (2 * many)
            numbers[k], numbers[many + k] = -1, 1
            if self.number(0, 2) == 0:
                numbers[self.number(0, many - 1)] += self.number(-1, 1)
            high = self.number(0, size)
            rows.append((tuple(numbers), high))
            rows.append((tuple(-number for number in numbers), self.number(0, size) - high + size))
        return rows

    def readings(self, world, count):
        """So many readings, most near to one course, some doubled but for the label."""
        stand = self.point(world[0], 3)
        readings = []
        for k in range(count):
            name, numbers, _ = self.one_of(world[4])
            moment = self.number(0, world[1] - 1)
            worth = fraction(0, 1)
            for number, a in zip(numbers, stand):
                worth = told(exact(worth) + number * exact(a))
            if self.number(0, 3) == 0:
                worth = told(exact(worth) + exact(self.fraction(2)))
            reading = ("r" + str(k), name, moment, worth)
            if readings and self.number(0, 5) == 0:
                reading = ("r" + str(k),) + self.one_of(readings)[1:]
            readings.append(reading)
        return self.mixed_up(readings)

    def arrivals(self, world, count):
        """Arrivals of a few readings, heard late and twice, and taken back, none taken."""
        readings = self.readings(world, count)
        found = []
        for _ in range(2 * count):
            reading = self.one_of(readings)
            found.append(("back", reading[0]) if self.number(0, 5) == 0 else ("hear", reading))
        return found

    def linear(self, world, size=3):
        """A LINEAR of the world, some without terms."""
        terms = [(moment, self.numbers(world[0], size)) for moment in range(world[1]) if self.number(0, 1)]
        return ([term for term in terms if any(term[1])], self.number(-size, 2 * size))

    def sheet(self):
        """A SHEET, some of its numbers of up to a hundred digits."""
        world = self.world(size=self.one_of([1, 3, 12]))
        if self.number(0, 4) == 0:
            many, moments, start, steps, sensors = world
            big = 10 ** 100 - 1 - self.number(0, 5)
            start = start + [((big,) + (-big,) * (many - 1), self.one_of([big, -big]))]
            world = (many, moments, start, steps, sensors[:-1] + [(sensors[-1][0], sensors[-1][1], (big, 1))])
        linears = [self.linear(world) for _ in range(self.number(0, 4))]
        return (self.one_of([["x"], ["back"]]) if world[0] == 1 else self.one_of([["x", "y"], ["y1", "step"]]),
                world, self.readings(world, self.number(0, 5)), linears)


# Worlds at the edges of what the document tells, each with readings.
EDGES = {
    "one moment, nothing told": ((1, 1, [], [], []), []),
    "eight moments, nothing told": ((2, 8, [], [[]] * 7, []), []),
    "a point": ((1, 2, [((2,), 1), ((-2,), -1)], [[((1, -1), 0), ((-1, 1), 0)]], []), []),
    "a false start row": ((1, 3, [((0,), -2)], [[], []], [("a", (1,), (0, 1))]), [("r", "a", 1, (1, 1))]),
    "a false row of the last step": ((2, 3, [((1, 0), 1)], [[], [((0, 0, 0, 0), -1)]], []), []),
    "idle rows": ((1, 3, [((0,), 0)], [[((0, 0), 3)], [((0, 0), 0), ((0, 1), 2)]], []), []),
    "steps without rows": ((2, 3, [((1, 1), 4)], [[], []], [("a", (1, 0), (1, 2)), ("b", (0, 1), (0, 1))]),
                           [("r1", "a", 0, (1, 3)), ("r2", "b", 0, (2, 1)), ("r3", "a", 2, (7, 1))]),
    "equal readings": ((1, 2, [], [[((1, -1), 0), ((-1, 1), 1)]], [("a", (2,), (1, 1))]),
                       [("r1", "a", 1, (5, 1)), ("r2", "a", 1, (5, 1)), ("r3", "a", 1, (5, 1))]),
    "readings that clash at one moment": ((1, 3, [], [[], []], [("a", (1,), (1, 1)), ("b", (1,), (0, 1))]),
                                          [("r1", "a", 1, (5, 1)), ("r2", "b", 1, (7, 1))]),
    "readings that clash over a step": ((1, 3, [], [[((-1, 1), 1), ((1, -1), 1)]] * 2, [("a", (1,), (0, 1))]),
                                        [("r1", "a", 2, (5, 1)), ("r2", "a", 0, (9, 1))]),
    "a line": ((2, 2, [((1, -1), 0), ((-1, 1), 0)], [[((1, 0, -1, 0), 0), ((-1, 0, 1, 0), 0)]], []), []),
    "drift without end": ((2, 3, [((-1, 0), 0), ((0, -1), 0)],
                           [[((1, 0, -1, 0), 0), ((0, 1, 0, -1), 0)], [((1, 1, -1, -1), 0)]],
                           [("a", (1, -1), (1, 1))]), [("r", "a", 1, (0, 1))]),
    "equal rows": ((1, 2, [((1,), 1), ((1,), 1)], [[((1, -1), 0)] * 3], []), []),
    "eight moments": ((1, 8, [((1,), 0), ((-1,), 0)], [[((-1, 1), 1), ((1, -1), 0)]] * 7, [("a", (1,), (1, 2))]),
                      [("r1", "a", 7, (5, 1)), ("r2", "a", 3, (3, 1))]),
    "as many unknowns as can be": ((2, 8, [((1, 0), 3), ((-1, 0), 3), ((0, 1), 2), ((0, -1), 2)],
                                    [[((-1, -1, 1, 0), 1), ((1, 1, -1, 0), 1), ((0, -1, 0, 1), 1),
                                      ((0, 1, 0, -1), 1)]] * 7, [("a", (1, 2), (1, 1))]),
                                   [(f"r{k}", "a", k, (k, 1)) for k in range(0, 8, 2)]),
}


def made_moments(seed, count):
    """The worlds at the edges, and then so many made ones, each with readings and a source of further values."""
    made = MadeWorlds(seed)
    for world, readings in EDGES.values():
        yield made, world, readings
    for _ in range(count):
        world = made.world()
        yield made, world, made.readings(world, made.number(0, 5))


def made_questions(seed, count):
    """Worlds and readings, each with terms and linears supposed, some of which leave no course."""
    for made, world, readings in made_moments(seed, count):
        terms = made.linear(world, made.one_of([1, 3]))[0]
        supposed = [made.linear(world) for _ in range(made.one_of([0, 0, 1, 2, 4]))]
        if supposed and made.number(0, 4) == 0:
            forms, most = supposed[0]
            contrary = [(moment, tuple(-number for number in numbers)) for moment, numbers in forms]
            supposed = [supposed[0], (contrary, -most - made.number(0, 1))]
        yield made, world, readings, terms, tuple(supposed) if made.number(0, 1) else supposed


def made_conflicts(seed, count, most=6):
    """Worlds with sensors, each with readings of which some are at odds, and a source of further values."""
    made = MadeWorlds(seed)
    for world, readings in EDGES.values():
        if world[4]:
            yield made, world, readings[:most]
    for _ in range(count):
        world = made.world()
        readings = made.readings(world, made.number(0, most))
        for k in range(len(readings)):
            if made.number(0, 3) == 0:
                label, name, moment, worth = readings[k]
                readings[k] = (label, name, moment, told(exact(worth) + made.number(-4, 4)))
        yield made, world, readings


def doubled(readings, label="zz"):
    """The readings with the first one behind them once more, under another label."""
    return readings + [(label,) + reading[1:] for reading in readings[:1]]


def folded():
    """A world and readings whose sets have twice as many sides from moment to moment back, but few at moment 0.

    Each step turns the plane and folds it along a line; so a shape of more than 200 rows is stepped back to moment 0.
    """
    size = 10 ** 6
    steps = [[((1, 0, -1, 0), 0), ((-1, 0, 1, 0), 0), ((0, 1, 0, 0), 0), ((0, -1, 0, 0), 0)]]
    for k in range(2, 8):
        turn = math.pi / 2 ** k
        c, s = round(size * math.cos(turn)), round(size * math.sin(turn))
        steps.append([((c, s, -size, 0), 0), ((-c, -s, size, 0), 0), ((-s, c, 0, -size), 0), ((s, -c, 0, -size), 0)])
    sensors, readings = [], []
    for k in range(4):
        turn = math.pi / 2 ** 7 * (2 * k / 7)
        sensors.append((f"s{k}", (round(size * math.cos(turn)), round(size * math.sin(turn))), (10 * size, 1)))
        readings.append((f"r{k}", f"s{k}", 7, (-9 * size, 1)))
    return (2, 8, [], steps, sensors), readings


WORDS = ["course", "set", "stand", "reach", "peak", "saying", "by", "conflicts", "extra", "sensor", "spread", "said"]


def made_asked(made, world, word):
    """A QUESTION of the world with the word, None if it has none."""
    moment, many = made.number(0, world[1] - 1), world[0]
    supposed = [made.linear(world) for _ in range(made.one_of([0, 0, 0, 1, 3]))]
    names, wrong = [sensor[0] for sensor in world[4]], made.number(0, 3)
    if word == "stand":
        return (word, moment, made.point(many, 4))
    if word == "reach":
        return (word, made.linear(world, made.one_of([1, 3]))[0], supposed)
    if word == "peak":
        return (word, made.direction(many), supposed)
    if word == "saying":
        linears = [made.linear(world, 2) for _ in range(made.one_of([0, 1, 1, 2, 4, 8]))]
        return (word, (made.one_of(["all", "any"]), linears), supposed)
    if word == "by":
        return (word, made.direction(many), made.number(-5, 6), supposed)
    if word == "sensor":
        return (word, wrong, made.one_of(names)) if names else None
    if word == "said":
        numbers, most = made.row(many * world[1], made.one_of([1, 2]))
        return (word, wrong, (numbers, most + made.one_of([0, 5, -5])))
    parts = {"set": (moment,), "spread": (wrong, moment)}
    return (word,) + parts.get(word, ())
