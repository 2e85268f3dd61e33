"""Ranks: the least ones that can be laid for all right claims of a sentence over a world."""

from worldsay.judging import Judge
from worldsay.nodes import Frame
from worldsay.worlds import Ground


def ranked(world, sentence):
    """The least ranks of each right claim."""
    return dict(Ranking(Ground(world), Frame(sentence)).ranks)


class Ranking:
    """All right claims, what their rows may lean on, and their least ranks."""

    def __init__(self, ground, frame):
        self.ground = ground
        self.frame = frame
        self.judge = Judge(ground, frame)
        self.ranks = {}
        for number in range(len(frame.things)):
            for point in range(ground.many):
                self.ranks[self.right_claim(number, point)] = (0,) * len(frame.binders[number])
        self.options = {}
        for claim in self.ranks:
            self.options[claim] = self.options_of(claim)
        self.raise_all()

    def right_claim(self, number, point):
        """The claim of a thing at a point that is right."""
        return (number, point, self.judge.is_so(number, point))

    def options_of(self, claim):
        """For each choice that a row of a right claim may have what it leans on: pairs."""
        thing = self.frame.things[claim[0]]
        parts = self.frame.parts[claim[0]]
        if thing[0] == "fact":
            return [(None, [])]
        if thing[0] == "wish":
            parts = self.frame.parts[self.frame.binder_wished(claim[0])]
        if thing[0] in ("and", "or"):
            return self.joint_options(claim, [(part, claim[1]) for part in parts], thing[0] == "and")
        if thing[0] in ("some", "every"):
            points = self.points_led(claim[0], claim[1])
            return self.joint_options(claim, [(parts[0], point) for point in points], thing[0] == "every")
        # Of a show it is the t, the last part, that holds or not.
        return [(None, [self.right_claim(parts[-1], claim[1])])]

    def points_led(self, number, point):
        """The points to which the step of a thing leads from a point, in its room."""
        mask = self.judge.leads_in_room(number, self.frame.things[number][1])[point]
        return [other for other in range(self.ground.many) if (mask >> other) & 1]

    def joint_options(self, claim, places, is_all):
        """Pairs as options are, of a claim that all, or that one, of some things at points hold."""
        claims = [self.right_claim(place[0], place[1]) for place in places]
        if claim[2] == is_all:
            return [(None, claims)]
        # The choice is a part's number, or a point: what the one is told by beside the others.
        chosen = 0 if self.frame.things[claim[0]][0] in ("and", "or") else 1
        return [(other[chosen], [other]) for other in claims if other[2] == claim[2]]

    def raise_all(self):
        """Raises ranks, from noughts on, till none is raised."""
        leaning = self.claims_leaning()
        # At noughts all is as told but the wishes that have to fall.
        waiting = [claim for claim in self.ranks if self.has_to_fall(claim)]
        while waiting:
            behind = {}
            for claim in waiting:
                least = self.least_let(claim)
                if least > self.ranks[claim]:
                    self.ranks[claim] = least
                    for other in leaning.get(claim, ()):
                        behind[other] = True
            waiting = list(behind)

    def claims_leaning(self):
        """For each claim those, with binders that are hard for them, that may lean on it."""
        leaning = {}
        for claim in self.ranks:
            if any(self.frame.hard_binders(claim[0], claim[2])):
                for option in self.options[claim]:
                    for other in option[1]:
                        leaning.setdefault(other, []).append(claim)
        return leaning

    def has_to_fall(self, claim):
        """Whether a claim is one of a wish whose binder is hard for it."""
        if self.frame.things[claim[0]][0] != "wish":
            return False
        return self.frame.is_hard(self.frame.binder_wished(claim[0]), claim[0], claim[2])

    def least_let(self, claim):
        """The least ranks that what it may lean on lets a claim have."""
        let = [self.ranks_let(claim, option[1]) for option in self.options[claim]]
        return min([ranks for ranks in let if ranks is not None])

    def ranks_let(self, claim, leaned):
        """The least ranks that these claims let one have that leans on them; None where they let it have none."""
        many = len(self.ranks[claim])
        if self.frame.things[claim[0]][0] != "wish":
            return max([self.ranks[other][:many] for other in leaned], default=(0,) * many)
        ranks = self.ranks[leaned[0]]
        if self.has_to_fall(claim):
            ranks = raised(ranks, self.frame.hard_binders(claim[0], claim[2]), self.ground.many)
        return None if ranks is None else ranks + (0,) * (many - len(ranks))

    def best_option(self, claim):
        """An option by which a claim has its least ranks."""
        return [option for option in self.options[claim] if self.ranks_let(claim, option[1]) == self.ranks[claim]][0]


def raised(ranks, hard, most):
    """The least ranks greater than these, with noughts where not hard and none beyond the most; None where none are."""
    place = len(ranks) - 1
    while place >= 0:
        if hard[place] and ranks[place] < most:
            return ranks[:place] + (ranks[place] + 1,) + (0,) * (len(ranks) - place - 1)
        place = place - 1
    return None
