"""Small worlds, worlds side by side, and points of two worlds that are alike or not."""

from worldsay.alike import classes
from worldsay.parting import parted
from worldsay.worlds import Ground, many_points, marks_of, parts_by, points_of


def small(world):
    """The world of a world's classes, and for each point the number of its class."""
    parts = classes(world)
    numbers = marks_of(parts, many_points(world))
    # All points of a class have the same facts and lead to the same classes: the first one speaks for them.
    firsts = [part[0] for part in parts]
    facts = []
    for pair in world[0]:
        facts.append((pair[0], tuple([number for number, first in enumerate(firsts) if first in pair[1]])))
    ground = Ground(world)
    moves = [classes_led(ground, ("on",), first, numbers) for first in firsts]
    sights = []
    for pair in world[2]:
        led = [classes_led(ground, ("one", (pair[0],)), first, numbers) for first in firsts]
        sights.append((pair[0], parts_by(led)))
    return ((tuple(facts), tuple(moves), tuple(sights)), tuple(numbers))


def classes_led(ground, step, point, numbers):
    """The numbers of the classes to which a step leads from a point, rising."""
    return tuple(sorted(set([numbers[other] for other in ground.leads(step, point)])))


def beside(one, other):
    """Two worlds side by side, the points of the other one behind those of the one."""
    many = many_points(one)
    facts = []
    for name in names_of(one[0], other[0]):
        facts.append((name, points_of(one, name) + moved(points_of(other, name), many)))
    moves = list(one[1]) + [moved(points, many) for points in other[1]]
    sights = []
    for hand in names_of(one[2], other[2]):
        parts = list(parts_told(one, hand)) + [moved(part, many) for part in parts_told(other, hand)]
        sights.append((hand, tuple(sorted(parts))))
    return (tuple(facts), tuple(moves), tuple(sights))


def names_of(pairs, others):
    """The names of pairs and others, rising."""
    return sorted(set([pair[0] for pair in pairs]) | set([pair[0] for pair in others]))


def moved(points, many):
    """Points with their numbers made greater by so many."""
    return tuple([point + many for point in points])


def parts_told(world, hand):
    """The parts of a hand, told or not."""
    alone = tuple([(point,) for point in range(many_points(world))])
    return dict(world[2]).get(hand, alone)


def alike_points(one, p, other, q):
    """Closed parts in one of which a point of each world stands, or a sentence that parts them."""
    both = beside(one, other)
    sentence = parted(both, p, q + many_points(one))
    if sentence is None:
        return ("alike", classes(both))
    return ("apart", sentence)
