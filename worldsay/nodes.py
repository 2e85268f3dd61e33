"""The things of a sentence by their numbers, and what stands round each of them."""

from worldsay.sentences import is_binder, parts_of


def things_of(sentence):
    """The things of a sentence, by their numbers."""
    things = []
    waiting = [sentence]
    while waiting:
        thing = waiting.pop()
        things.append(thing)
        # The first part goes last onto the list, so that it and all within it come next.
        for part in reversed(parts_of(thing)):
            waiting.append(part)
    return things


def parts_at(sentence):
    """For each thing of a sentence the numbers of its parts, in order."""
    things = things_of(sentence)
    told = [()] * len(things)
    # For each thing the number behind the last one within it: the next part begins there.
    behind = [0] * len(things)
    for number in range(len(things) - 1, -1, -1):
        parts = []
        place = number + 1
        while len(parts) < len(parts_of(things[number])):
            parts.append(place)
            place = behind[place]
        told[number] = tuple(parts)
        behind[number] = place
    return told


def binders_at(sentence):
    """For each thing of a sentence the numbers of the binders round it, outermost first."""
    things = things_of(sentence)
    parts = parts_at(sentence)
    told = [()] * len(things)
    # What is round a thing stands ahead of it, so each is done before its parts are.
    for number, thing in enumerate(things):
        inside = told[number] + (number,) if is_binder(thing) else told[number]
        for part in parts[number]:
            told[part] = inside
    return told


def rooms_at(sentence):
    """For each thing of a sentence the numbers of the shows of its room, outermost first."""
    things = things_of(sentence)
    parts = parts_at(sentence)
    told = [()] * len(things)
    for number, thing in enumerate(things):
        for part in parts[number]:
            told[part] = told[number]
        if thing[0] == "show":
            told[parts[number][1]] = told[number] + (number,)
    return told


def binder_of(sentence, number):
    """The number of the binder that the wish of this number stands for."""
    things = things_of(sentence)
    name = things[number][1]
    return max([binder for binder in binders_at(sentence)[number] if things[binder][1] == name])


def sign_at(sentence, binder, number, truth):
    """A truth at a thing, turned about once for each not between it and a binder round it."""
    things = things_of(sentence)
    parts = parts_at(sentence)
    sign = truth
    place = binder
    while place != number:
        if things[place][0] == "not":
            sign = not sign
        # Numbers go on from part to part: the last part that isn't behind the thing has it.
        place = max([part for part in parts[place] if part <= number])
    return sign
