"""Rounds of telling: hands show one another, at once, whether they know whether a sentence holds."""

from worldsay.judging import holds
from worldsay.showing import cut
from worldsay.worlds import many_points, part_of


def telling(world, hands, sentence):
    """The world behind one round."""
    held = holds(world, sentence)
    behind = world
    for hand in hands:
        # All show at once: what each knows is asked of the world as it was ahead of the round.
        behind = cut(behind, hands, knowing(world, hand, held))
    return behind


def knowing(world, hand, held):
    """The points at which a hand knows whether something holds that holds at these points."""
    inside = {}
    for point in held:
        inside[point] = True
    told = []
    for point in range(many_points(world)):
        truths = [other in inside for other in part_of(world, hand, point)]
        if all(truths) or not any(truths):
            told.append(point)
    return tuple(told)


def rounds(world, hands, sentence):
    """The worlds of rounds, from the world itself to the first one that a round doesn't change."""
    worlds = [world]
    behind = telling(world, hands, sentence)
    while behind != worlds[-1]:
        worlds.append(behind)
        behind = telling(behind, hands, sentence)
    return worlds
