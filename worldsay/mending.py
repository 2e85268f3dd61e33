"""Changes of a world, and papers mended behind them."""

from worldsay.answering import answered_by
from worldsay.checking import is_as_told, lets
from worldsay.claims import Book
from worldsay.errors import NoChange
from worldsay.nodes import Frame
from worldsay.plain import is_name, is_whole
from worldsay.ranking import Ranking
from worldsay.showing import cut
from worldsay.worlds import Ground, is_points, many_points, marks_of, parts_by, points_of


def changed(world, change):
    """The world behind a change."""
    many = many_points(world)
    if not is_change(change, many):
        raise NoChange()
    if change[0] == "fact":
        points = toggled(points_of(world, change[1]), change[2])
        return (with_pair(world[0], change[1], points), world[1], world[2])
    if change[0] == "move":
        moves = list(world[1])
        moves[change[1]] = toggled(moves[change[1]], change[2])
        return (world[0], tuple(moves), world[2])
    if change[0] == "split":
        return cut(world, (change[1],), change[2])
    # A hand that is not told has a part for each point.
    parts = dict(world[2]).get(change[1], tuple([(point,) for point in range(many)]))
    return (world[0], world[1], with_pair(world[2], change[1], joined_parts(parts, change[2], change[3])))


def is_change(thing, many):
    """Whether a plain thing is a change of a world of so many points."""
    if not isinstance(thing, tuple) or len(thing) not in (3, 4):
        return False
    if len(thing) == 4:
        return thing[0] == "join" and is_name(thing[1]) and are_points(thing[2:], many)
    if thing[0] == "fact":
        return is_name(thing[1]) and are_points(thing[2:], many)
    if thing[0] == "split":
        return is_name(thing[1]) and is_points(thing[2], many)
    return thing[0] == "move" and are_points(thing[1:], many)


def are_points(things, many):
    """Whether plain things are points of a world of so many, in whatever order."""
    return all([is_whole(thing) and 0 <= thing < many for thing in things])


def toggled(points, point):
    """Rising points with one taken out, or put in where it is not there."""
    if point in points:
        return tuple([other for other in points if other != point])
    return tuple(sorted(points + (point,)))


def with_pair(pairs, name, value):
    """Pairs with rising names, this name's value laid anew."""
    told = dict(pairs)
    told[name] = value
    return tuple([(one, told[one]) for one in sorted(told)])


def joined_parts(parts, one, other):
    """Parts with those of two points made one."""
    marks = marks_of(parts, sum([len(part) for part in parts]))
    return parts_by([marks[one] if mark == marks[other] else mark for mark in marks])


def mended(world, sentence, point, truth, paper, change):
    """The truth behind a change and a paper for it, in which what may be kept of the handed one is kept."""
    behind = changed(world, change)
    if lets(behind, sentence, point, truth, paper):
        return (truth, paper)
    ground = Ground(behind)
    frame = Frame(sentence)
    return answered_by(Ranking(ground, frame), point, kept_rows(ground, frame, paper))


def kept_rows(ground, frame, paper):
    """The greatest set of rows each of which is as told by all of them, by their claims."""
    rows = paper
    book = Book(ground, frame, rows)
    good = [row for row in rows if is_as_told(book, row)]
    # More rows never make one bad, so whatever is not as told now can't stand in any such set.
    while len(good) < len(rows):
        rows = good
        book = Book(ground, frame, rows)
        good = [row for row in rows if is_as_told(book, row)]
    return dict(book.rows)
