"""Judging: at which points a sentence holds, and what hands can't tell apart in a room."""

from worldsay.nodes import Frame
from worldsay.worlds import Ground, parts_by


def holds(world, sentence):
    """The points at which a sentence holds, rising."""
    judge = Judge(Ground(world), Frame(sentence))
    return judge.points_at(0)


def room_world(world, sentence, number):
    """The world as it is in the room of a thing of a sentence."""
    judge = Judge(Ground(world), Frame(sentence))
    room = judge.frame.rooms[number]
    sights = []
    for pair in world[2]:
        masks = judge.seen[room[-1] if room else -1][pair[0]]
        # Two points have the same mask just where the hand can't tell them apart.
        sights.append((pair[0], parts_by(masks)))
    return (world[0], world[1], tuple(sights))


class Judge:
    """Where each thing of a sentence holds, in its room: sets of points are kept as masks, a bit a point."""

    def __init__(self, ground, frame):
        self.ground = ground
        self.frame = frame
        self.every_point = (1 << ground.many) - 1
        # For each show (-1 for none) what its room's hands can't tell from each point.
        self.seen = {-1: first_sights(ground)}
        self.tables = {}
        self.wished = {}
        self.found = [None] * len(frame.things)
        self.judge_thing(0)

    def points_at(self, number):
        """The points at which a thing holds, in its room."""
        return tuple([point for point in range(self.ground.many) if self.is_so(number, point)])

    def is_so(self, number, point):
        """Whether a thing holds at a point, in its room."""
        return (self.found[number] >> point) & 1 == 1

    def judge_thing(self, number):
        """The mask of a thing; what stands within it is judged with it."""
        head = self.frame.things[number][0]
        if head == "show":
            self.judge_show(number)
        elif head in ("least", "most"):
            self.judge_binder(number)
        else:
            masks = [self.judge_thing(part) for part in self.frame.parts[number]]
            self.found[number] = self.judge_plainly(number, masks)
        return self.found[number]

    def judge_plainly(self, number, masks):
        """The mask of a thing that is no show and no binder, by those of its parts."""
        thing = self.frame.things[number]
        if thing[0] == "fact":
            return mask_of(self.ground.facts.get(thing[1], ()))
        if thing[0] == "wish":
            return self.wished[self.frame.binder_wished(number)]
        if thing[0] == "not":
            return self.every_point ^ masks[0]
        if thing[0] == "and":
            return masks[0] & masks[1]
        if thing[0] == "or":
            return masks[0] | masks[1]
        leads = self.leads_in_room(number, thing[1])
        if thing[0] == "some":
            return meeting(leads, masks[0])
        return self.every_point ^ meeting(leads, self.every_point ^ masks[0])

    def judge_show(self, number):
        """The mask of a show, which is that of its t in the room that its s cuts."""
        # No wish reaches into a show: what it is once it stays, however often it is come by.
        if self.found[number] is None:
            parts = self.frame.parts[number]
            cutting = self.judge_thing(parts[0])
            room = self.frame.rooms[number]
            self.seen[number] = self.cut_sights(room, self.frame.things[number][1], cutting)
            self.found[number] = self.judge_thing(parts[1])

    def cut_sights(self, room, hands, cutting):
        """What hands can't tell apart in a room, behind these hands were shown a mask."""
        outer = self.seen[room[-1] if room else -1]
        told = dict(outer)
        for hand in hands:
            if hand in outer:
                told[hand] = [mask & (cutting if (cutting >> point) & 1 else self.every_point ^ cutting)
                              for point, mask in enumerate(outer[hand])]
        return told

    def judge_binder(self, number):
        """The mask of a binder: its least or greatest set, come to step by step."""
        self.begin_binder(number)
        part = self.frame.parts[number][0]
        while self.found[number] is None or self.found[number] != self.wished[number]:
            if self.found[number] is not None:
                self.wished[number] = self.found[number]
            self.found[number] = self.judge_thing(part)

    def begin_binder(self, number):
        """Lays the set from which a binder is come to."""
        self.found[number] = None
        if number in self.wished and self.goes_with_outer(number):
            # The outer binder went the same way since: what was come to then is not beyond what comes now.
            return
        for inner in list(self.wished):
            if number in self.frame.binders[inner]:
                self.wished.pop(inner)
        self.wished[number] = 0 if self.frame.things[number][0] == "least" else self.every_point

    def goes_with_outer(self, number):
        """Whether a binder grows, or shrinks, just where the next binder round it does."""
        around = self.frame.binders[number]
        if len(around) == 0:
            return False
        alike = self.frame.things[number][0] == self.frame.things[around[-1]][0]
        return alike == ((self.frame.nots[number] - self.frame.nots[around[-1]]) % 2 == 0)

    def leads_in_room(self, number, step):
        """For each point the mask of those to which a step leads, in the room of a thing."""
        room = self.frame.rooms[number]
        key = (room[-1] if room else -1, step)
        if key not in self.tables:
            self.tables[key] = self.step_table(key[0], step)
        return self.tables[key]

    def step_table(self, show, step):
        """For each point the mask of those to which a step leads, in the room of this show."""
        if step[0] in ("on", "back"):
            return [mask_of(self.ground.leads(step, point)) for point in range(self.ground.many)]
        # A hand that is not told tells all points apart.
        alone = [1 << point for point in range(self.ground.many)]
        tables = [self.seen[show].get(hand, alone) for hand in step[1]]
        table = tables[0]
        for other in tables:
            if step[0] == "one":
                table = [mask | more for mask, more in zip(table, other)]
            else:
                table = [mask & more for mask, more in zip(table, other)]
        return table


def first_sights(ground):
    """For each hand told, and each point, the mask of the points that it can't tell from it."""
    sights = {}
    for pair in ground.world[2]:
        masks = [0] * ground.many
        for part in pair[1]:
            for point in part:
                masks[point] = mask_of(part)
        sights[pair[0]] = masks
    return sights


def mask_of(points):
    """The mask of some unlike points."""
    return sum([1 << point for point in points])


def meeting(masks, mask):
    """The mask of the points whose own masks share a bit with this one."""
    return sum([1 << point for point, own in enumerate(masks) if own & mask])
