"""Weaving: the machine that goes on just as a system of programs does."""

from worldsay.programs import boxes_of, names_own


def machine_of(system):
    """The machine of a system."""
    seers = []
    deeds = []
    for program in system[1]:
        # A hand sees the board, its own counter and its own boxes.
        names = names_own(system[0] + program[2]) + (program[1],)
        seers.append((program[0], tuple(sorted(names))))
        for number in range(len(program[3])):
            deeds.extend(deeds_of(program, number))
    return (tuple(boxes_of(system)), tuple(seers), tuple(deeds), system[2])


def deeds_of(program, number):
    """The deeds of the line of this number."""
    line = program[3][number]
    counter = program[1]
    there = ("same", ("box", counter), ("num", number))
    behind = ("num", number + 1)
    if line[0] in ("set", "tell"):
        return [(there, ((line[-2], line[-1]), (counter, behind)))]
    if line[0] == "wait":
        return [(("times", there, line[1]), ((counter, behind),))]
    if line[0] == "go":
        return [(there, ((counter, ("pick", line[1], ("num", line[2]), behind)),))]
    if line[0] == "any":
        return [(there, ((counter, ("num", target)),)) for target in line[1:]]
    return []
