"""Worlds: points with facts, moves from point to point, and hands that can't tell some apart."""

from worldsay.plain import are_rising_names, is_whole


def is_world(thing):
    """Whether a plain thing is a world, of whatever number of points."""
    if not isinstance(thing, tuple) or len(thing) != 3:
        return False
    moves = thing[1]
    if not isinstance(moves, tuple) or len(moves) == 0:
        return False
    many = len(moves)
    if not all([is_points(points, many) for points in moves]):
        return False
    return is_facts(thing[0], many) and is_sights(thing[2], many)


def is_points(thing, many):
    """Whether a plain thing is a rising tuple, perhaps empty, of points of a world of so many."""
    if not isinstance(thing, tuple):
        return False
    ahead = -1
    for point in thing:
        if not is_whole(point) or not ahead < point < many:
            return False
        ahead = point
    return True


def is_parts(thing, many):
    """Whether a plain thing is sorted parts of a world of so many points, each in just one."""
    if not isinstance(thing, tuple):
        return False
    points = []
    for part in thing:
        if not is_points(part, many) or len(part) == 0:
            return False
        points.extend(part)
    return sorted(points) == list(range(many)) and sorted(thing) == list(thing)


def is_named(thing):
    """Whether a plain thing is a tuple of pairs, with names that rise as their firsts."""
    if not isinstance(thing, tuple):
        return False
    if not all([isinstance(pair, tuple) and len(pair) == 2 for pair in thing]):
        return False
    return are_rising_names([pair[0] for pair in thing])


def is_facts(thing, many):
    """Whether a plain thing is the facts of a world of so many points."""
    return is_named(thing) and all([is_points(pair[1], many) for pair in thing])


def is_sights(thing, many):
    """Whether a plain thing is the sights of a world of so many points."""
    return is_named(thing) and all([is_parts(pair[1], many) for pair in thing])


def many_points(world):
    """How many points a world has."""
    return len(world[1])


def points_of(world, name):
    """The points where a fact holds."""
    for pair in world[0]:
        if pair[0] == name:
            return pair[1]
    return ()


def part_of(world, hand, point):
    """The points that a hand can't tell from this one, itself too."""
    for pair in world[2]:
        if pair[0] == hand:
            return [part for part in pair[1] if point in part][0]
    return (point,)


def led(world, step, point):
    """The points to which a step leads from a point, by the world alone."""
    moves = world[1]
    if step[0] == "on":
        return moves[point]
    if step[0] == "back":
        return tuple([start for start in range(len(moves)) if point in moves[start]])
    parts = [part_of(world, hand, point) for hand in step[1]]
    if step[0] == "one":
        return in_some(parts)
    return in_each(parts)


def in_some(parts):
    """The points that stand in at least one of some parts, rising."""
    points = []
    for part in parts:
        points.extend(part)
    return tuple(sorted(set(points)))


def in_each(parts):
    """The points that stand in each of some parts, rising as they do in the first one."""
    points = parts[0]
    for part in parts:
        points = tuple([point for point in points if point in part])
    return points


class Ground:
    """A world made ready to be asked often."""

    def __init__(self, world):
        self.world = world
        self.many = len(world[1])
        self.marks = {}
        for pair in world[2]:
            self.marks[pair[0]] = marks_of(pair[1], self.many)
        self.facts = dict(world[0])
        self.steps = {}

    def has_fact(self, name, point):
        """Whether a fact holds at a point."""
        return point in self.facts.get(name, ())

    def leads(self, step, point):
        """The points to which a step leads from a point, by the world alone."""
        if step not in self.steps:
            self.steps[step] = [led(self.world, step, start) for start in range(self.many)]
        return self.steps[step][point]

    def are_joined(self, hand, one, other):
        """Whether a hand can't tell two points apart, by the world alone."""
        if hand not in self.marks:
            return one == other
        return self.marks[hand][one] == self.marks[hand][other]


def marks_of(parts, many):
    """For each of so many points the number of the part in which it stands."""
    marks = [0] * many
    for number, part in enumerate(parts):
        for point in part:
            marks[point] = number
    return marks


def parts_by(marks):
    """The parts of points that have the same mark, sorted."""
    parts = {}
    for point, mark in enumerate(marks):
        parts.setdefault(mark, []).append(point)
    return tuple(sorted([tuple(part) for part in parts.values()]))
