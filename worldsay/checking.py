"""The small checker: it judges nothing, and looks at a paper row by row."""

from worldsay.claims import Book
from worldsay.nodes import Frame
from worldsay.plain import is_whole
from worldsay.worlds import Ground


def fault_of(world, sentence, things):
    """The place of the first thing of a tuple that is no row, or else is not as told; None of a right one."""
    ground = Ground(world)
    frame = Frame(sentence)
    claims = {}
    for place, thing in enumerate(things):
        if not is_row(ground, frame, thing) or thing[:3] in claims:
            return place
        claims[thing[:3]] = True
    book = Book(ground, frame, things)
    for place, row in enumerate(things):
        if not is_as_told(book, row):
            return place
    return None


def lets(world, sentence, point, truth, thing):
    """Whether a plain thing is let by as a paper for a sentence, a point and a truth."""
    if not isinstance(thing, tuple) or fault_of(world, sentence, thing) is not None:
        return False
    return (0, point, truth) in [row[:3] for row in thing]


def is_row(ground, frame, thing):
    """Whether a plain thing is a row over a world and a sentence, whatever it leans on."""
    if not isinstance(thing, tuple) or len(thing) != 5:
        return False
    if not is_below(thing[0], len(frame.things)) or not is_below(thing[1], ground.many):
        return False
    if not isinstance(thing[2], bool) or not are_ranks(thing[3], frame.hard_binders(thing[0], thing[2])):
        return False
    return thing[4] is None or (is_whole(thing[4]) and abs(thing[4]) < 10 ** 60)


def is_below(thing, most):
    """Whether a plain thing is a whole number from 0 on, below this one."""
    return is_whole(thing) and 0 <= thing < most


def are_ranks(thing, hard):
    """Whether a plain thing is ranks for binders of which these are hard."""
    if not isinstance(thing, tuple) or len(thing) != len(hard):
        return False
    return all([is_below(rank, 10 ** 60 if is_hard else 1) for rank, is_hard in zip(thing, hard)])


def is_as_told(book, row):
    """Whether a row of a paper is good, has rows for all that it leans on, and ranks that fit theirs."""
    claims = book.leaned(row)
    if claims is None or not all([claim in book.rows for claim in claims]):
        return False
    if book.frame.things[row[0]][0] == "wish":
        return wish_falls(book, row, book.rows[claims[0]][3])
    return all([book.rows[claim][3][:len(row[3])] <= row[3] for claim in claims])


def wish_falls(book, row, ranks):
    """Whether the ranks of what a wish leans on are no greater than its own, smaller for a hard binder."""
    own = row[3][:len(ranks)]
    if book.frame.is_hard(book.frame.binder_wished(row[0]), row[0], row[2]):
        return ranks < own
    return ranks <= own
