"""Machines: boxes with numbers, deeds that lay them anew, and the worlds of their states."""

from worldsay.errors import TooMany
from worldsay.plain import are_rising_names, is_name
from worldsay.reckonings import is_bounded, is_reckoning, reckoned
from worldsay.worlds import is_named, parts_by

MOST_BOXES = 6
MOST_SEERS = 4
MOST_DEEDS = 60
MOST_FACTS = 8
MOST_STATES = 60


def is_machine(thing):
    """Whether a plain thing is a machine."""
    if not isinstance(thing, tuple) or len(thing) != 4:
        return False
    boxes = thing[0]
    if not are_boxes(boxes, MOST_BOXES) or len(boxes) == 0:
        return False
    names = tuple([box[0] for box in boxes])
    return are_seers(thing[1], names) and are_deeds(thing[2], names) and are_told_facts(thing[3], names)


def are_boxes(thing, most):
    """Whether a plain thing is a tuple of at most so many boxes, of unlike names."""
    if not isinstance(thing, tuple) or len(thing) > most or not all([is_box(box) for box in thing]):
        return False
    return len(set([box[0] for box in thing])) == len(thing)


def is_box(thing):
    """Whether a plain thing is a box."""
    if not isinstance(thing, tuple) or len(thing) != 4 or not is_name(thing[0]):
        return False
    return all([is_bounded(number) for number in thing[1:]]) and thing[1] <= thing[3] <= thing[2]


def are_seers(thing, names):
    """Whether a plain thing is hands with the boxes, of these names, that they see."""
    if not is_named(thing) or len(thing) > MOST_SEERS:
        return False
    return all([isinstance(pair[1], tuple) and are_rising_names(pair[1]) and all([name in names for name in pair[1]])
                for pair in thing])


def are_deeds(thing, names):
    """Whether a plain thing is deeds over boxes of these names."""
    if not isinstance(thing, tuple) or len(thing) > MOST_DEEDS:
        return False
    return all([is_deed(deed, names) for deed in thing])


def is_deed(thing, names):
    """Whether a plain thing is a deed over boxes of these names."""
    if not isinstance(thing, tuple) or len(thing) != 2 or not is_reckoning(thing[0], names):
        return False
    if not isinstance(thing[1], tuple) or not all([is_lay(lay, names) for lay in thing[1]]):
        return False
    return len(set([lay[0] for lay in thing[1]])) == len(thing[1])


def is_lay(thing, names):
    """Whether a plain thing lays a box of these names by a reckoning over them."""
    if not isinstance(thing, tuple) or len(thing) != 2 or not is_name(thing[0]):
        return False
    return thing[0] in names and is_reckoning(thing[1], names)


def are_told_facts(thing, names):
    """Whether a plain thing is facts told by reckonings over boxes of these names."""
    return is_named(thing) and len(thing) <= MOST_FACTS and all([is_reckoning(pair[1], names) for pair in thing])


def first_state(machine):
    """The state with the boxes' firsts."""
    return tuple([box[3] for box in machine[0]])


def values_at(boxes, state):
    """The boxes' values at a state, by their names."""
    values = {}
    for box, number in zip(boxes, state):
        values[box[0]] = number
    return values


def state_laid(boxes, state, laid):
    """A state with the boxes whose names are laid, a dict, having these numbers, cut to their least and greatest."""
    numbers = []
    for box, number in zip(boxes, state):
        numbers.append(max(box[1], min(box[2], laid.get(box[0], number))))
    return tuple(numbers)


def done_at(machine, state, number):
    """The state behind the deed of this number, None where it can't be done."""
    values = values_at(machine[0], state)
    deed = machine[2][number]
    if reckoned(deed[0], values) == 0:
        return None
    laid = {}
    for lay in deed[1]:
        laid[lay[0]] = reckoned(lay[1], values)
    return state_laid(machine[0], state, laid)


def world_of(machine):
    """The world of a machine's states, and the states by their points."""
    states = [first_state(machine)]
    numbers = {states[0]: 0}
    moves = []
    while len(moves) < len(states):
        led = [done_at(machine, states[len(moves)], number) for number in range(len(machine[2]))]
        led = [state for state in led if state is not None]
        for state in led:
            if state not in numbers:
                numbers[state] = len(states)
                states.append(state)
        if len(states) > MOST_STATES:
            raise TooMany()
        moves.append(tuple(sorted(set([numbers[state] for state in led]))))
    return ((facts_of(machine, states), tuple(moves), sights_of(machine, states)), states)


def facts_of(machine, states):
    """For each fact of a machine the points of the states where its reckoning isn't 0."""
    values = [values_at(machine[0], state) for state in states]
    facts = []
    for pair in machine[3]:
        facts.append((pair[0], tuple([point for point, told in enumerate(values) if reckoned(pair[1], told) != 0])))
    return tuple(facts)


def sights_of(machine, states):
    """For each hand of a machine the parts of points at whose states it sees the same numbers."""
    sights = []
    for pair in machine[1]:
        seen = [place for place, box in enumerate(machine[0]) if box[0] in pair[1]]
        sights.append((pair[0], parts_by([tuple([state[place] for place in seen]) for state in states])))
    return tuple(sights)
