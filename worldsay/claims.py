"""Claims: which binders are hard for them, and what the rows of a paper lean on."""

from worldsay.nodes import Frame
from worldsay.worlds import Ground


def hard_at(sentence, number, truth):
    """For each binder round a thing, outermost first, whether it is hard for a claim of this truth."""
    return Frame(sentence).hard_binders(number, truth)


def leans(world, sentence, paper, row):
    """The claims that a row of a paper leans on, sorted; None of a bad row."""
    return Book(Ground(world), Frame(sentence), paper).leaned(row)


class Book:
    """The rows of a paper by their claims, over a world and a sentence."""

    def __init__(self, ground, frame, rows):
        self.ground = ground
        self.frame = frame
        self.rows = {}
        for row in rows:
            self.rows[row[:3]] = row

    def leaned(self, row):
        """The claims that a row leans on, sorted; None of a bad row."""
        head = self.frame.things[row[0]][0]
        if head in ("some", "every"):
            return self.leaned_by_step(row)
        if head in ("and", "or"):
            return self.leaned_by_joint(row)
        if row[4] is not None:
            return None
        if head == "fact":
            holds = self.ground.has_fact(self.frame.things[row[0]][1], row[1])
            return [] if row[2] == holds else None
        if head == "wish":
            binder = self.frame.binder_wished(row[0])
            return [(self.frame.parts[binder][0], row[1], row[2])]
        # Of a show it is the t, the last part, that holds or not.
        truth = row[2] if head != "not" else not row[2]
        return [(self.frame.parts[row[0]][-1], row[1], truth)]

    def leaned_by_joint(self, row):
        """What a row of an and, an or leans on."""
        parts = self.frame.parts[row[0]]
        if row[2] != (self.frame.things[row[0]][0] == "and"):
            return [(row[4], row[1], row[2])] if row[4] in parts else None
        return [(part, row[1], row[2]) for part in parts] if row[4] is None else None

    def leaned_by_step(self, row):
        """What a row of a some, an every leans on."""
        thing = self.frame.things[row[0]]
        part = self.frame.parts[row[0]][0]
        points = self.ground.leads(thing[1], row[1])
        if row[2] != (thing[0] == "every"):
            if row[4] not in points or not self.is_shown_joined(row[0], row[1], row[4]):
                return None
            return [(part, row[4], row[2])]
        if row[4] is not None:
            return None
        return [(part, point, row[2]) for point in points if not self.is_shown_apart(row[0], row[1], point)]

    def is_shown_apart(self, number, point, other):
        """Whether the paper shows that the step of a thing doesn't lead from a point to another one in its room."""
        step = self.frame.things[number][1]
        if step[0] in ("on", "back") or point == other:
            return False
        shown = [self.is_apart_for(number, hand, point, other) for hand in self.joining(step, point, other)]
        return all(shown) if step[0] == "one" else any(shown)

    def is_shown_joined(self, number, point, other):
        """Whether the paper shows that the step of a thing leads from a point to another one in its room."""
        step = self.frame.things[number][1]
        if step[0] in ("on", "back") or point == other:
            return True
        shown = [self.is_joined_for(number, hand, point, other) for hand in self.joining(step, point, other)]
        return any(shown) if step[0] == "one" else all(shown)

    def joining(self, step, point, other):
        """The hands of a step that can't tell two points apart by the world."""
        return [hand for hand in step[1] if self.ground.are_joined(hand, point, other)]

    def is_apart_for(self, number, hand, point, other):
        """Whether some show of the thing's room is shown to part two points for a hand."""
        return any([self.has_both(part, point, True, other, False) or self.has_both(part, point, False, other, True)
                    for part in self.parts_shown(number, hand)])

    def is_joined_for(self, number, hand, point, other):
        """Whether no show of the thing's room is shown to part two points for a hand."""
        return all([self.has_both(part, point, True, other, True) or self.has_both(part, point, False, other, False)
                    for part in self.parts_shown(number, hand)])

    def parts_shown(self, number, hand):
        """The numbers of what the shows of a thing's room show to a hand."""
        shows = self.frame.rooms[number]
        return [self.frame.parts[show][0] for show in shows if hand in self.frame.things[show][1]]

    def has_both(self, number, point, truth, other, other_truth):
        """Whether the paper has rows of a thing at two points, with these truths."""
        return (number, point, truth) in self.rows and (number, other, other_truth) in self.rows
