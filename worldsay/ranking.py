"""Ranks: the least ones that can be laid for all right claims of a sentence over a world."""

from worldsay.judging import Judge, meeting
from worldsay.nodes import Frame
from worldsay.worlds import Ground


def ranked(world, sentence):
    """The least ranks of each right claim."""
    return Ranking(Ground(world), Frame(sentence)).ranks


class Ranking:
    """All right claims, what their rows may lean on, and their least ranks."""

    def __init__(self, ground, frame):
        self.ground = ground
        self.frame = frame
        self.judge = Judge(ground, frame)
        self.ranks = {}
        # What is claimed of a sentence leans on claims of its sign alone: the two are laid each by itself.
        for sign in (True, False):
            self.ranks.update(Staging(self.judge, sign).ranks)

    def right_claim(self, number, point):
        """The claim of a thing at a point that is right."""
        return (number, point, self.judge.is_so(number, point))

    def options_of(self, claim):
        """For each choice that a row of a right claim may have what it leans on: pairs."""
        thing = self.frame.things[claim[0]]
        parts = self.frame.parts[claim[0]]
        if thing[0] == "fact":
            return [(None, [])]
        if thing[0] == "wish":
            parts = self.frame.parts[self.frame.binder_wished(claim[0])]
        if thing[0] in ("and", "or"):
            return self.joint_options(claim, [(part, claim[1]) for part in parts], thing[0] == "and")
        if thing[0] in ("some", "every"):
            points = self.points_led(claim[0], claim[1])
            return self.joint_options(claim, [(parts[0], point) for point in points], thing[0] == "every")
        # Of a show it is the t, the last part, that holds or not.
        return [(None, [self.right_claim(parts[-1], claim[1])])]

    def points_led(self, number, point):
        """The points to which the step of a thing leads from a point, in its room."""
        mask = self.judge.leads_in_room(number, self.frame.things[number][1])[point]
        return [other for other in range(self.ground.many) if (mask >> other) & 1]

    def joint_options(self, claim, places, is_all):
        """Pairs as options are, of a claim that all, or that one, of some things at points hold."""
        claims = [self.right_claim(place[0], place[1]) for place in places]
        if claim[2] == is_all:
            return [(None, claims)]
        # The choice is a part's number, or a point: what the one is told by beside the others.
        chosen = 0 if self.frame.things[claim[0]][0] in ("and", "or") else 1
        return [(other[chosen], [other]) for other in claims if other[2] == claim[2]]

    def best_option(self, claim):
        """An option by which a claim has its least ranks."""
        options = self.options_of(claim)
        if len(options) == 1:
            return options[0]
        # Where there are several, each leans on one claim.
        many = len(self.ranks[claim])
        return min(options, key=lambda option: self.ranks[option[1][0]][:many])


class Staging:
    """The right claims of one sign, come to stage by stage; a claim's ranks are the stages at which it comes.

    A hard binder's wishes hold, at each of its stages, where what stands within it came at one ahead, by the
    stages of the binders round it first; the sets of the other binders are the greatest at that stage.
    """

    def __init__(self, judge, sign):
        self.judge = judge
        self.frame = judge.frame
        self.sign = sign
        self.ranks = {}
        self.come = [0] * len(self.frame.things)
        self.whole = [False] * len(self.frame.things)
        self.ahead = {}
        self.wished = {}
        self.stages = {}
        self.stage_thing(0, True)

    def truth_at(self, number):
        """The truth that claims of a thing have."""
        return self.sign == (self.frame.nots[number] % 2 == 0)

    def right_mask(self, number):
        """The mask of the points at which the claims of a thing are right."""
        mask = self.judge.found[number]
        return mask if self.truth_at(number) else self.judge.every_point ^ mask

    def stage_thing(self, number, laying):
        """The mask of the points at which claims of a thing come by the stages as they are; ranks are laid, or not."""
        # What has come stays, and no more comes than is right.
        if self.whole[number]:
            return self.right_mask(number)
        mask = self.mask_of_thing(number, laying)
        if laying:
            self.lay_ranks(number, mask)
            parts = [self.whole[part] for part in self.frame.parts[number]]
            self.whole[number] = mask == self.right_mask(number) and all(parts)
        return mask

    def lay_ranks(self, number, mask):
        """Lays the ranks of the claims of a thing that come now."""
        ranks = tuple([self.stages[binder] for binder in self.frame.binders[number]])
        truth = self.truth_at(number)
        fresh = mask & (self.judge.every_point ^ self.come[number])
        for point in range(fresh.bit_length()):
            if (fresh >> point) & 1:
                self.ranks[(number, point, truth)] = ranks
        self.come[number] = mask

    def mask_of_thing(self, number, laying):
        """The mask of a thing by those of its parts."""
        thing = self.frame.things[number]
        parts = self.frame.parts[number]
        if thing[0] == "fact":
            return self.right_mask(number)
        if thing[0] == "wish":
            return self.wished[self.frame.binder_wished(number)]
        if thing[0] in ("least", "most"):
            if self.frame.is_hard(number, parts[0], self.truth_at(parts[0])):
                return self.stage_hard(number, laying)
            return self.stage_other(number, laying)
        masks = [self.stage_thing(part, laying) for part in parts]
        if thing[0] in ("not", "show"):
            return masks[-1]
        is_all = self.truth_at(number) == (thing[0] in ("and", "every"))
        if thing[0] in ("and", "or"):
            return masks[0] & masks[1] if is_all else masks[0] | masks[1]
        leads = self.judge.leads_in_room(number, thing[1])
        if is_all:
            every_point = self.judge.every_point
            return every_point ^ meeting(leads, every_point ^ masks[0])
        return meeting(leads, masks[0])

    def stage_hard(self, number, laying):
        """The mask of a binder that is hard: stages go on till nothing comes any more."""
        part = self.frame.parts[number][0]
        self.stages[number] = 0
        self.wished[number] = self.ahead.get(number, 0)
        mask = self.stage_thing(part, laying)
        while mask != self.wished[number]:
            self.stages[number] = self.stages[number] + 1
            self.wished[number] = mask
            mask = self.stage_thing(part, laying)
        # At a later stage of a binder round it all this came ahead, whatever its own stages were.
        if laying:
            self.ahead[number] = mask
        return mask

    def stage_other(self, number, laying):
        """The mask of a binder that is not hard: the greatest set, looked for ahead of laying."""
        part = self.frame.parts[number][0]
        self.stages[number] = 0
        self.wished[number] = self.right_mask(part)
        mask = self.stage_thing(part, False)
        while mask != self.wished[number]:
            self.wished[number] = mask
            mask = self.stage_thing(part, False)
        return self.stage_thing(part, True) if laying else mask
