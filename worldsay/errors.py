"""The refusals, one class for each, all of them straight under one base."""


class WorldError(ValueError):
    """Any refusal."""


class NoText(WorldError):
    """A text, or a list of them, writes nothing: the first row and word that can't stand there."""

    def __init__(self, row, word):
        self.row = row
        self.word = word


class NoTruth(WorldError):
    """Something is said that doesn't hold: its place among what is said."""

    def __init__(self, place):
        self.place = place


class TooMany(WorldError):
    """More would come than the document lets."""


class NoChange(WorldError):
    """A thing is no change of a world."""


class NoLine(WorldError):
    """A row is none that a desk takes."""


class NoWorld(WorldError):
    """A desk is asked for a world that it hasn't got yet."""


class NoPoint(WorldError):
    """A point is none of the world's."""


class NoPaper(WorldError):
    """A paper is not let by."""
