"""What is common to hands: how far rows of their steps lead, and doubts."""

from worldsay.judging import holds
from worldsay.worlds import Ground, parts_by


def common_parts(world, hands):
    """The parts of points that rows of steps of these hands join."""
    ground = Ground(world)
    marks = [None] * ground.many
    for point in range(ground.many):
        if marks[point] is None:
            for other in reached(ground, hands, [point]):
                marks[other] = point
    return parts_by(marks)


def pool_parts(world, hands):
    """The parts of points that none of these hands tells apart."""
    ground = Ground(world)
    # A hand that is not told tells all points apart.
    alone = list(range(ground.many))
    marks = []
    for point in range(ground.many):
        marks.append(tuple([ground.marks.get(hand, alone)[point] for hand in hands]))
    return parts_by(marks)


def reached(ground, hands, firsts):
    """For each point that rows of steps of these hands lead to from some points how many steps do."""
    far = {}
    for point in firsts:
        far[point] = 0
    waiting = list(firsts)
    while waiting:
        behind = []
        for point in waiting:
            for other in ground.leads(("one", hands), point):
                if other not in far:
                    far[other] = far[point] + 1
                    behind.append(other)
        waiting = behind
    return far


def levels(world, hands, sentence):
    """For each point how many steps lead to where a sentence doesn't hold, None where no row of them does."""
    ground = Ground(world)
    # These steps lead back as they lead on, so they can be gone from where it doesn't hold.
    far = reached(ground, hands, holds(world, ("not", sentence)))
    return [far.get(point) for point in range(ground.many)]


def doubt(world, hands, sentence, point):
    """A shortest row of (hand, point) from a point to where a sentence doesn't hold, or None."""
    ground = Ground(world)
    level = levels(world, hands, sentence)
    if level[point] is None:
        return None
    told = []
    while level[point] > 0:
        nearer = [other for other in ground.leads(("one", hands), point) if level[other] == level[point] - 1][0]
        hand = [one for one in hands if ground.are_joined(one, point, nearer)][0]
        told.append((hand, nearer))
        point = nearer
    return tuple(told)
