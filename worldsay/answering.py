"""Answers: whether a sentence holds at a point, with a paper that shows it."""

from worldsay.nodes import Frame
from worldsay.ranking import Ranking
from worldsay.worlds import Ground


def answered(world, sentence, point):
    """Whether a sentence holds at a point, and a paper that is let by for it."""
    return answered_by(Ranking(Ground(world), Frame(sentence)), point, {})


def answered_by(ranking, point, kept):
    """The truth at a point and a paper for it, in which claims that have a kept row stand with it."""
    first = ranking.right_claim(0, point)
    rows = {}
    waiting = [first]
    while waiting:
        claim = waiting.pop()
        if claim not in rows:
            rows[claim] = row_of(ranking, claim, kept)
            waiting.extend(claims_leaned(ranking, rows[claim]) + claims_beside(ranking, rows[claim]))
    fresh = [row for row in rows.values() if row[:3] not in kept]
    shift = max([shift_wanted(ranking, row, kept) for row in fresh], default=0)
    return (first[2], tuple([row if row[:3] in kept else shifted(ranking, row, shift) for row in rows.values()]))


def row_of(ranking, claim, kept):
    """The row of a right claim: the kept one, or one by its least ranks."""
    if claim in kept:
        return kept[claim]
    return claim + (ranking.ranks[claim], ranking.best_option(claim)[0])


def claims_leaned(ranking, row):
    """The right claims that a row leans on, where all right claims have rows."""
    return [option[1] for option in ranking.options_of(row[:3]) if option[0] == row[4]][0]


def claims_beside(ranking, row):
    """The right claims of what was shown to the hands of a row's step, at its point and where that may lead."""
    frame = ranking.frame
    thing = frame.things[row[0]]
    if thing[0] not in ("some", "every") or thing[1][0] in ("on", "back"):
        return []
    points = ranking.ground.leads(thing[1], row[1]) if row[4] is None else (row[4],)
    # The point itself is always joined: where nothing else is led to, nothing has to be shown.
    if points == (row[1],):
        return []
    claims = []
    for show in frame.rooms[row[0]]:
        if any([hand in thing[1][1] for hand in frame.things[show][1]]):
            part = frame.parts[show][0]
            claims.extend([ranking.right_claim(part, point) for point in (row[1],) + points])
    return claims


def shift_wanted(ranking, row, kept):
    """By how much the hard ranks of all fresh rows have to be greater, so that this one may lean on kept ones."""
    hard = ranking.frame.hard_binders(row[0], row[2])
    if not any(hard):
        return 0
    # Where the first hard rank is greater, it doesn't matter what the others are.
    place = hard.index(True)
    ranks = [kept[claim][3] for claim in claims_leaned(ranking, row) if claim in kept]
    return max([0] + [told[place] - row[3][place] + 1 for told in ranks if place < len(told)])


def shifted(ranking, row, shift):
    """A row with each hard rank made greater by as much."""
    hard = ranking.frame.hard_binders(row[0], row[2])
    ranks = [rank + shift if is_hard else rank for rank, is_hard in zip(row[3], hard)]
    return row[:3] + (tuple(ranks), row[4])
