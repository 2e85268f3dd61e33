"""Talks: one doubts a claim of a paper, and is led on from row to row."""

from worldsay.claims import Book
from worldsay.nodes import Frame
from worldsay.worlds import Ground


def talked(world, sentence, point, truth, paper, picks):
    """The claims of a talk about a paper, and how it ends."""
    frame = Frame(sentence)
    book = Book(Ground(world), frame, paper)
    claims = [(0, point, truth)]
    stood = {}
    while claims[-1] not in stood:
        place = len(claims) - 1
        stood[claims[-1]] = place
        leaned = book.leaned(book.rows[claims[-1]])
        if len(leaned) == 0:
            head = frame.things[claims[-1][0]][0]
            return (claims, ("fact",) if head == "fact" else ("none",))
        pick = picks[place] if place < len(picks) else 0
        claims.append(leaned[pick % len(leaned)])
    return (claims, ("ring", outermost_wished(frame, claims[stood[claims[-1]]:])))


def outermost_wished(frame, ring):
    """The outermost binder that the wishes of a ring of claims go through."""
    wishes = [claim[0] for claim in ring if frame.things[claim[0]][0] == "wish"]
    # The binders of one ring stand round one another, and what stands round has the lower number.
    return min([frame.binder_wished(number) for number in wishes])
