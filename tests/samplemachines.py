"""Machines and systems for the tests, and slow readings of what the document says of them."""

from samples import slow_name
from test_reckonings import random_reckoning, slow_reckoned, slow_size


def random_machine(chance, boxes=None, deeds=None):
    """A machine with boxes of few numbers, so that few states are come to."""
    names = chance.sample(("n", "m", "k", "box", "lay", "zz"), boxes or chance.randint(1, 4))
    told = []
    for name in names:
        least = chance.choice((0, 0, -1, 5, -999))
        greatest = least + chance.choice((0, 1, 1, 2, 3))
        told.append((name, least, greatest, chance.randint(least, greatest)))
    names = tuple(names)
    hands = tuple((hand, tuple(sorted(chance.sample(names, chance.randint(0, len(names))))))
                  for hand in sorted(chance.sample(("ann", "bob", "cid", "hand", "eve"), chance.randint(0, 4))))
    facts = tuple((name, random_reckoning(chance, chance.choice((1, 3, 7)), names))
                  for name in sorted(chance.sample(("a", "b", "c", "fact", "box"), chance.randint(0, 4))))
    rows = []
    for count in range(chance.randint(0, 5) if deeds is None else deeds):
        laid = chance.sample(names, chance.randint(0, len(names)))
        rows.append((random_reckoning(chance, chance.choice((1, 3, 5)), names),
                     tuple((name, random_reckoning(chance, chance.choice((1, 3, 4)), names)) for name in laid)))
    return (tuple(told), hands, tuple(rows), facts)


def slow_box(thing):
    if type(thing) is not tuple or len(thing) != 4 or not slow_name(thing[0]):
        return False
    if not all(type(number) is int and -999 <= number <= 999 for number in thing[1:]):
        return False
    return thing[1] <= thing[3] <= thing[2]


def slow_boxes(thing, low, most):
    return (type(thing) is tuple and low <= len(thing) <= most and all(map(slow_box, thing))
            and len({box[0] for box in thing}) == len(thing))


def slow_pairs(thing, most):
    return (type(thing) is tuple and len(thing) <= most and all(
        type(pair) is tuple and len(pair) == 2 and slow_name(pair[0]) for pair in thing)
        and [pair[0] for pair in thing] == sorted({pair[0] for pair in thing}))


def slow_machine(thing):
    if type(thing) is not tuple or len(thing) != 4 or not slow_boxes(thing[0], 1, 6):
        return False
    names = [box[0] for box in thing[0]]
    if not slow_pairs(thing[1], 4) or not slow_pairs(thing[3], 8) or type(thing[2]) is not tuple or len(thing[2]) > 60:
        return False
    for hand, seen in thing[1]:
        if type(seen) is not tuple or not all(type(name) is str and name in names for name in seen):
            return False
        if list(seen) != sorted(set(seen)):
            return False
    if any(slow_size(reckoning, names) > 20 for name, reckoning in thing[3]):
        return False
    for deed in thing[2]:
        if type(deed) is not tuple or len(deed) != 2 or slow_size(deed[0], names) > 20 or type(deed[1]) is not tuple:
            return False
        for lay in deed[1]:
            if type(lay) is not tuple or len(lay) != 2 or type(lay[0]) is not str or lay[0] not in names:
                return False
            if slow_size(lay[1], names) > 20:
                return False
        if len({lay[0] for lay in deed[1]}) != len(deed[1]):
            return False
    return True


def slow_done(machine, state, number):
    values = {box[0]: one for box, one in zip(machine[0], state)}
    guard, lays = machine[2][number]
    if slow_reckoned(guard, values) == 0:
        return None
    told = dict(values)
    for name, reckoning in lays:
        box = [box for box in machine[0] if box[0] == name][0]
        told[name] = min(max(slow_reckoned(reckoning, values), box[1]), box[2])
    return tuple(told[box[0]] for box in machine[0])


def slow_states(machine):
    """The states that are come to, in order; more than sixty of them end it."""
    states = [tuple(box[3] for box in machine[0])]
    for state in states:
        for number in range(len(machine[2])):
            led = slow_done(machine, state, number)
            if led is not None and led not in states:
                states.append(led)
        if len(states) > 60:
            break
    return states


def random_system(chance, wide=False):
    """A system of few states, or of many boxes and lines."""
    names = chance.sample(("a", "b", "c", "d", "e", "f", "pc", "go"), 6)
    many = chance.randint(1, 3)
    spare = 6 - many
    board = [small_box(chance, names.pop()) for count in range(chance.randint(0, min(3, spare)))]
    spare -= len(board)
    frames = []
    for hand in sorted(chance.sample(("ann", "bob", "cid", "set"), many)):
        own = [small_box(chance, names.pop()) for count in range(chance.randint(0, min(2, spare)))]
        spare -= len(own)
        frames.append((hand, names.pop(), tuple(own)))
    programs = []
    for hand, counter, own in frames:
        lines = chance.randint(1, 8 if wide else 4)
        seen = [box[0] for box in board + list(own)] + [counter]
        programs.append((hand, counter, own, tuple(random_line(chance, board, frames, hand, own, seen, lines)
                                                   for line in range(lines))))
    every = tuple(box[0] for box in board) + sum((((counter,) + tuple(box[0] for box in own))
                                                  for hand, counter, own in frames), ())
    facts = tuple((name, random_reckoning(chance, chance.choice((1, 3, 20)), every))
                  for name in sorted(chance.sample(("p", "q", "r"), chance.randint(0, 3))))
    return (tuple(board), tuple(programs), facts)


def small_box(chance, name):
    least = chance.choice((0, 0, -2, 7))
    greatest = least + chance.randint(0, 3)
    return (name, least, greatest, chance.randint(least, greatest))


def random_line(chance, board, frames, hand, own, seen, lines):
    def r():
        return random_reckoning(chance, chance.choice((1, 3, 5, 12)), seen)
    sorts = ["wait", "go", "any", "stop"]
    others = [(other, box[0]) for other, counter, boxes in frames if other != hand for box in boxes]
    sorts += ["set"] * 3 * bool(board or own) + ["tell"] * 2 * bool(others)
    sort = chance.choice(sorts)
    if sort == "set":
        return (sort, chance.choice(board + list(own))[0], r())
    if sort == "tell":
        return (sort,) + chance.choice(others) + (r(),)
    if sort == "wait":
        return (sort, r())
    if sort == "go":
        return (sort, r(), chance.randint(0, lines))
    if sort == "any":
        return (sort, chance.randint(0, lines), chance.randint(0, lines))
    return (sort,)


def slow_system(thing):
    if type(thing) is not tuple or len(thing) != 3 or not slow_boxes(thing[0], 0, 3):
        return False
    board, programs, facts = thing
    if type(programs) is not tuple or not 1 <= len(programs) <= 3:
        return False
    for program in programs:
        if type(program) is not tuple or len(program) != 4 or not slow_name(program[0]) or not slow_name(program[1]):
            return False
        if not slow_boxes(program[2], 0, 2) or type(program[3]) is not tuple or not 1 <= len(program[3]) <= 8:
            return False
    hands = [program[0] for program in programs]
    names = [box[0] for box in board] + [name for program in programs
                                        for name in [program[1]] + [box[0] for box in program[2]]]
    if hands != sorted(set(hands)) or len(set(names)) != len(names) or len(names) > 6:
        return False
    if not slow_pairs(facts, 8) or any(slow_size(reckoning, names) > 20 for name, reckoning in facts):
        return False
    return all(slow_line(thing, program, line) for program in programs for line in program[3])


def slow_line(system, program, line):
    board, programs, facts = system
    own = [box[0] for box in program[2]]
    seen = [box[0] for box in board] + own + [program[1]]
    if type(line) is not tuple or not line or type(line[0]) is not str:
        return False

    def to(number):
        return type(number) is int and 0 <= number <= len(program[3])

    def r(thing):
        return slow_size(thing, seen) <= 12
    head, rest = line[0], line[1:]
    if head == "set" and len(rest) == 2:
        return type(rest[0]) is str and rest[0] in [box[0] for box in board] + own and r(rest[1])
    if head == "tell" and len(rest) == 3:
        return r(rest[2]) and any(rest[:2] == (other[0], box[0]) for other in programs if other[0] != program[0]
                                  for box in other[2])
    if head == "wait" and len(rest) == 1:
        return r(rest[0])
    if head == "go" and len(rest) == 2:
        return r(rest[0]) and to(rest[1])
    if head == "any" and len(rest) == 2:
        return to(rest[0]) and to(rest[1])
    return head == "stop" and not rest


def slow_order(system):
    """All boxes of a system in the order of its states, counters among them."""
    board, programs, facts = system
    told = list(board)
    for hand, counter, boxes, lines in programs:
        told.append((counter, 0, len(lines), 0))
        told += boxes
    return told


def slow_ways_on(system, state):
    order = slow_order(system)
    values = {box[0]: number for box, number in zip(order, state)}
    told = set()

    def go(**laid):
        cut = {box[0]: min(max(laid.get(box[0], values[box[0]]), box[1]), box[2]) for box in order}
        told.add(tuple(cut[box[0]] for box in order))
    for hand, counter, boxes, lines in system[1]:
        at = values[counter]
        if at >= len(lines):
            continue
        line = lines[at]
        if line[0] == "set":
            go(**{line[1]: slow_reckoned(line[2], values), counter: at + 1})
        elif line[0] == "tell":
            go(**{line[2]: slow_reckoned(line[3], values), counter: at + 1})
        elif line[0] == "wait" and slow_reckoned(line[1], values):
            go(**{counter: at + 1})
        elif line[0] == "go":
            go(**{counter: line[2] if slow_reckoned(line[1], values) else at + 1})
        elif line[0] == "any":
            go(**{counter: line[1]})
            go(**{counter: line[2]})
    return sorted(told)
