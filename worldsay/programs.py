"""Programs: hands that go on by lines, one at a time, over a board and boxes of their own."""

from worldsay.machines import are_boxes, are_told_facts, state_laid, values_at
from worldsay.plain import are_rising_names, is_name, is_whole
from worldsay.reckonings import is_reckoning_of, reckoned

MOST_BOARD = 3
MOST_PROGRAMS = 3
MOST_OWN = 2
MOST_LINES = 8
MOST_NAMES = 6
MOST_IN_LINE = 12
LINE_LENGTHS = {"set": 3, "tell": 4, "wait": 2, "go": 3, "any": 3, "stop": 1}


def is_system(thing):
    """Whether a plain thing is a system."""
    if not isinstance(thing, tuple) or len(thing) != 3 or not are_boxes(thing[0], MOST_BOARD):
        return False
    programs = thing[1]
    if not isinstance(programs, tuple) or not 1 <= len(programs) <= MOST_PROGRAMS:
        return False
    if not all([is_like_program(program) for program in programs]):
        return False
    if not are_rising_names([program[0] for program in programs]):
        return False
    names = [box[0] for box in boxes_of(thing)]
    if len(names) > MOST_NAMES or len(set(names)) < len(names):
        return False
    return all([are_lines(thing, program) for program in programs]) and are_told_facts(thing[2], tuple(names))


def is_like_program(thing):
    """Whether a plain thing is like a program, whatever its lines are."""
    if not isinstance(thing, tuple) or len(thing) != 4 or not is_name(thing[1]):
        return False
    return are_boxes(thing[2], MOST_OWN) and isinstance(thing[3], tuple) and 1 <= len(thing[3]) <= MOST_LINES


def boxes_of(system):
    """The board's boxes, then for each program its counter, as a box, and its boxes."""
    boxes = list(system[0])
    for program in system[1]:
        boxes.append((program[1], 0, len(program[3]), 0))
        boxes.extend(program[2])
    return boxes


def names_own(boxes):
    """The names of boxes."""
    return tuple([box[0] for box in boxes])


def are_lines(system, program):
    """Whether what stands where a program's lines should are lines of it."""
    return all([is_line(system, program, line) for line in program[3]])


def is_line(system, program, thing):
    """Whether a plain thing is a line of a program."""
    if not isinstance(thing, tuple) or len(thing) == 0 or not isinstance(thing[0], str):
        return False
    head = thing[0]
    if head not in LINE_LENGTHS or len(thing) != LINE_LENGTHS[head]:
        return False
    if head == "stop":
        return True
    if head == "any":
        return is_target(program, thing[1]) and is_target(program, thing[2])
    if head in ("wait", "go"):
        return is_read_by(system, program, thing[1]) and (head == "wait" or is_target(program, thing[2]))
    if not is_read_by(system, program, thing[-1]):
        return False
    if head == "set":
        return isinstance(thing[1], str) and thing[1] in names_own(system[0] + program[2])
    return thing[1] != program[0] and is_box_of(system, thing[1], thing[2])


def is_target(program, thing):
    """Whether a plain thing is a number to which a program's counter may go."""
    return is_whole(thing) and 0 <= thing <= len(program[3])


def is_read_by(system, program, thing):
    """Whether a plain thing is a reckoning that a program's line may have."""
    names = names_own(system[0] + program[2]) + (program[1],)
    return is_reckoning_of(thing, names, MOST_IN_LINE)


def is_box_of(system, hand, name):
    """Whether a plain thing is the name of one of the own boxes of the program of a hand."""
    return any([program[0] == hand and name in names_own(program[2]) for program in system[1]])


def first_of(system):
    """A system's first state."""
    return tuple([box[3] for box in boxes_of(system)])


def ways_on(system, state):
    """The states to which one can go on from a state, each once, sorted."""
    boxes = boxes_of(system)
    values = values_at(boxes, state)
    states = {}
    for program in system[1]:
        for laid in lays_of(program, values):
            states[state_laid(boxes, state, laid)] = True
    return sorted(states)


def lays_of(program, values):
    """What a program may lay by these values: dicts by boxes' and counters' names, none where it can't go on."""
    counter = values[program[1]]
    if counter == len(program[3]):
        return []
    line = program[3][counter]
    if line[0] in ("set", "tell"):
        return [{program[1]: counter + 1, line[-2]: reckoned(line[-1], values)}]
    if line[0] == "wait":
        return [{program[1]: counter + 1}] if reckoned(line[1], values) != 0 else []
    if line[0] == "go":
        return [{program[1]: line[2] if reckoned(line[1], values) != 0 else counter + 1}]
    if line[0] == "any":
        return [{program[1]: line[1]}, {program[1]: line[2]}]
    return []
