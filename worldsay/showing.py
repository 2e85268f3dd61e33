"""Showing: what worlds are behind something was shown to hands, and sayings one behind the other."""

from worldsay.errors import NoTruth
from worldsay.judging import holds


def cut(world, hands, points):
    """The world whose hands, these ones, can tell these points from the others."""
    sights = []
    for pair in world[2]:
        parts = cut_parts(pair[1], points) if pair[0] in hands else pair[1]
        sights.append((pair[0], parts))
    return (world[0], world[1], tuple(sights))


def cut_parts(parts, points):
    """Parts, each of them parted into its points among these and its others."""
    inside = {}
    for point in points:
        inside[point] = True
    told = []
    for part in parts:
        told.append(tuple([point for point in part if point in inside]))
        told.append(tuple([point for point in part if point not in inside]))
    return tuple(sorted([part for part in told if len(part) > 0]))


def said(world, point, sayings):
    """The world behind sayings that are truly said at a point, one behind the other."""
    for place, saying in enumerate(sayings):
        points = holds(world, saying[1])
        if point not in points:
            raise NoTruth(place)
        world = cut(world, saying[0], points)
    return world
