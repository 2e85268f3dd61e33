"""Remembering: worlds whose points are ways, so that hands know what they knew."""

from worldsay.errors import TooMany
from worldsay.worlds import Ground, parts_by

MOST_WAYS = 200


def ways_from(world, firsts, days):
    """The ways from these points of at most so many days, shorter ones ahead, else sorted."""
    moves = world[1]
    ways = []
    latest = [(point,) for point in firsts]
    for day in range(days + 1):
        if day > 0:
            latest = longer_ways(moves, latest, MOST_WAYS - len(ways))
        if len(ways) + len(latest) > MOST_WAYS:
            raise TooMany()
        ways.extend(latest)
    return ways


def longer_ways(moves, ways, most):
    """Sorted ways, each gone on by one point; no more are made than one beyond so many."""
    told = []
    for way in ways:
        for point in moves[way[-1]]:
            if len(told) <= most:
                told.append(way + (point,))
    return told


def remembered(world, firsts, days):
    """The world whose points are these ways, and the ways."""
    ways = ways_from(world, firsts, days)
    ground = Ground(world)
    facts = []
    for pair in world[0]:
        facts.append((pair[0], tuple([number for number, way in enumerate(ways) if way[-1] in pair[1]])))
    sights = []
    for pair in world[2]:
        marks = ground.marks[pair[0]]
        sights.append((pair[0], parts_by([tuple([marks[point] for point in way]) for way in ways])))
    return ((tuple(facts), moves_of_ways(ways), tuple(sights)), ways)


def moves_of_ways(ways):
    """For each way the numbers of those that have one point more and begin with it."""
    moves = {}
    for way in ways:
        moves[way] = []
    for number, way in enumerate(ways):
        if way[:-1] in moves:
            moves[way[:-1]].append(number)
    return tuple([tuple(moves[way]) for way in ways])
