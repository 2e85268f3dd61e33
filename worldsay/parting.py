"""Points parted: a sentence that holds at one point and not at another one."""

from worldsay.alike import closing_steps
from worldsay.worlds import Ground

SURE = ("or", ("fact", "a"), ("not", ("fact", "a")))


def parted(world, p, q):
    """A sentence that holds at the first point and not at the second, None where they are alike."""
    ground = Ground(world)
    # Parts with a sentence for each that holds just there; they are cut one by one.
    parts = [(tuple(range(ground.many)), SURE)]
    cutting = cut_found(ground, parts)
    while cutting is not None:
        part = cutting[0]
        sentence = cutting[2]
        inside = tuple([point for point in part[0] if point in cutting[1]])
        if p in part[0] and q in part[0] and (p in inside) != (q in inside):
            return sentence if p in inside else ("not", sentence)
        outside = tuple([point for point in part[0] if point not in inside])
        parts = [other for other in parts if other != part]
        parts.append((inside, both(part[1], sentence)))
        parts.append((outside, both(part[1], ("not", sentence))))
        cutting = cut_found(ground, parts)
    return None


def both(one, other):
    """A sentence that says what two say."""
    # What is sure need not be said.
    return other if one == SURE else ("and", one, other)


def cut_found(ground, parts):
    """A part, the points of which some are in it and some not, and the sentence that says so; None where none is."""
    for name in ground.facts:
        for part in parts:
            if is_cut(part[0], ground.facts[name]):
                return (part, ground.facts[name], ("fact", name))
    for step in closing_steps(ground):
        for other in parts:
            points = leading_to(ground, step, other[0])
            for part in parts:
                if is_cut(part[0], points):
                    return (part, points, ("some", step, other[1]))
    return None


def is_cut(part, points):
    """Whether some points of a part are among these and some not."""
    inside = [point in points for point in part]
    return any(inside) and not all(inside)


def leading_to(ground, step, points):
    """The points from which a step leads to at least one of these."""
    return tuple([point for point in range(ground.many)
                  if any([other in points for other in ground.leads(step, point)])])
