"""Points that are alike: parts of a world whose points have the same facts and lead to the same parts."""

from worldsay.worlds import Ground, is_parts, many_points, marks_of, parts_by


def classes(world):
    """The closed parts of which each part of any closed parts lies within one."""
    ground = Ground(world)
    marks = fact_marks(ground)
    finer = finer_marks(ground, marks)
    while len(set(finer)) > len(set(marks)):
        marks = finer
        finer = finer_marks(ground, marks)
    return parts_by(marks)


def lets_classes(world, thing):
    """Whether a plain thing is closed parts of a world."""
    if not is_parts(thing, many_points(world)):
        return False
    ground = Ground(world)
    marks = marks_of(thing, ground.many)
    facts = fact_marks(ground)
    finer = finer_marks(ground, marks)
    return len(set(list(zip(marks, facts, finer)))) == len(thing)


def closing_steps(ground):
    """The steps by which points of one class lead alike."""
    return [("on",), ("back",)] + [("one", (pair[0],)) for pair in ground.world[2]]


def fact_marks(ground):
    """Marks that are the same at two points where all facts are."""
    held = [tuple([ground.has_fact(name, point) for name in ground.facts]) for point in range(ground.many)]
    return numbered(held)


def finer_marks(ground, marks):
    """Marks that are the same at two points where these are, and where each step leads to the same of these."""
    told = []
    for point in range(ground.many):
        led = [tuple(sorted(set([marks[other] for other in ground.leads(step, point)])))
               for step in closing_steps(ground)]
        told.append((marks[point], tuple(led)))
    return numbered(told)


def numbered(marks):
    """Marks with each unlike one made a number, in the order in which they come."""
    numbers = {}
    for mark in marks:
        numbers.setdefault(mark, len(numbers))
    return [numbers[mark] for mark in marks]
