"""The things of a sentence by their numbers, and what stands round each of them."""

from worldsay.sentences import is_binder, parts_of


def things_of(sentence):
    """The things of a sentence, by their numbers."""
    things = []
    waiting = [sentence]
    while waiting:
        thing = waiting.pop()
        things.append(thing)
        # The first part goes last onto the list, so that it and all within it come next.
        for part in reversed(parts_of(thing)):
            waiting.append(part)
    return things


def parts_at(sentence):
    """For each thing of a sentence the numbers of its parts, in order."""
    things = things_of(sentence)
    told = [()] * len(things)
    # For each thing the number behind the last one within it: the next part begins there.
    behind = [0] * len(things)
    for number in range(len(things) - 1, -1, -1):
        parts = []
        place = number + 1
        while len(parts) < len(parts_of(things[number])):
            parts.append(place)
            place = behind[place]
        told[number] = tuple(parts)
        behind[number] = place
    return told


def binders_at(sentence):
    """For each thing of a sentence the numbers of the binders round it, outermost first."""
    things = things_of(sentence)
    parts = parts_at(sentence)
    told = [()] * len(things)
    # What is round a thing stands ahead of it, so each is done before its parts are.
    for number, thing in enumerate(things):
        inside = told[number] + (number,) if is_binder(thing) else told[number]
        for part in parts[number]:
            told[part] = inside
    return told


def rooms_at(sentence):
    """For each thing of a sentence the numbers of the shows of its room, outermost first."""
    things = things_of(sentence)
    parts = parts_at(sentence)
    told = [()] * len(things)
    for number, thing in enumerate(things):
        for part in parts[number]:
            told[part] = told[number]
        if thing[0] == "show":
            told[parts[number][1]] = told[number] + (number,)
    return told


class Frame:
    """A sentence's things with all that is asked of them again and again."""

    def __init__(self, sentence):
        self.things = things_of(sentence)
        self.parts = parts_at(sentence)
        self.binders = binders_at(sentence)
        self.rooms = rooms_at(sentence)
        self.nots = nots_at(self.things, self.parts)

    def binder_wished(self, number):
        """The binder that the wish of this number stands for."""
        name = self.things[number][1]
        return [binder for binder in self.binders[number] if self.things[binder][1] == name][0]

    def hard_binders(self, number, truth):
        """For each binder round a thing whether it is hard for a claim of this truth."""
        return tuple([self.is_hard(binder, number, truth) for binder in self.binders[number]])

    def is_hard(self, binder, number, truth):
        """Whether a binder round a thing is hard for a claim of this truth."""
        turned = (self.nots[number] - self.nots[binder]) % 2 == 1
        return (self.things[binder][0] == "least") == (truth != turned)


def nots_at(things, parts):
    """For each thing how many nots have it within them."""
    told = [0] * len(things)
    for number, thing in enumerate(things):
        for part in parts[number]:
            told[part] = told[number] + 1 if thing[0] == "not" else told[number]
    return told


def binder_of(sentence, number):
    """The number of the binder that the wish of this number stands for."""
    return Frame(sentence).binder_wished(number)


def sign_at(sentence, binder, number, truth):
    """A truth at a thing, turned about once for each not between it and a binder round it."""
    nots = nots_at(things_of(sentence), parts_at(sentence))
    return truth if (nots[number] - nots[binder]) % 2 == 0 else not truth
