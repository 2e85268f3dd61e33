"""Sentences of one hand: whether some world parts them."""

from worldsay.judging import holds
from worldsay.nodes import things_of


def same_said(one, other):
    """Whether two sentences of one hand hold at the same points of every world, else where they don't."""
    things = things_of(one) + things_of(other)
    names = sorted(set([thing[1] for thing in things if thing[0] == "fact"]))
    hand = hand_in(things)
    # To one hand a point is told by its facts and by those of the points it can't tell from it: no point need
    # stand twice in a part, and no other part matters.
    for mask in range(1, 1 << (1 << len(names))):
        world = world_of_kinds(names, hand, mask)
        points = sorted(set(holds(world, one)) ^ set(holds(world, other)))
        if points:
            return ("apart", world, points[0])
    return ("same",)


def hand_in(things):
    """The hand of which some things speak; any name where none does."""
    hands = [thing[1][1] for thing in things if thing[0] in ("some", "every")]
    shown = [thing[1] for thing in things if thing[0] == "show"]
    return (hands + shown + [("a",)])[0][0]


def world_of_kinds(names, hand, mask):
    """A world of one part, with a point for each kind whose bit the mask has; a kind's bits tell its facts."""
    kinds = [kind for kind in range(1 << len(names)) if (mask >> kind) & 1]
    facts = []
    for place, name in enumerate(names):
        facts.append((name, tuple([point for point, kind in enumerate(kinds) if (kind >> place) & 1])))
    every_point = tuple(range(len(kinds)))
    return (tuple(facts), ((),) * len(kinds), ((hand, (every_point,)),))
