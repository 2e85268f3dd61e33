"""A desk: it keeps a world, is told rows, and answers each with a text."""

from worldsay.answering import answered
from worldsay.checking import lets
from worldsay.errors import NoLine, NoPaper, NoPoint, NoText, NoWorld
from worldsay.judging import holds
from worldsay.machines import world_of
from worldsay.machinetexts import read_machine
from worldsay.mending import changed, mended
from worldsay.papertexts import WORDS_OF_TRUTH, read_paper, shown_paper
from worldsay.plain import is_name
from worldsay.plaintexts import read_plain
from worldsay.plainwords import cored
from worldsay.sentences import is_hands
from worldsay.sentencetexts import hands_in, read_sentence, shown_sentence
from worldsay.showing import said
from worldsay.small import small
from worldsay.words import is_figures
from worldsay.worlds import many_points
from worldsay.worldtexts import read_world, shown_world

PARTS = " : "
POINT_FIGURES = 3


class Desk:
    """A desk with a world, at first none."""

    def __init__(self):
        self.world = None

    def say(self, row):
        """The answer to a row."""
        line = read_line(row)
        if line[0] == "plain":
            return shown_sentence(cored(line[2]))
        if line[0] in ("keep", "machine"):
            return self.keep_world(line[2] if line[0] == "keep" else world_of(line[2])[0])
        if self.world is None:
            raise NoWorld()
        if not all([point < many_points(self.world) for point in line[1]]):
            raise NoPoint()
        return self.answer_line(line)

    def keep_world(self, world):
        """Keeps a world and tells how many points it has."""
        self.world = world
        return "points " + str(many_points(world))

    def answer_line(self, line):
        """The answer to a line that asks of the world, or changes it."""
        if line[0] == "world":
            return "; ".join(shown_world(self.world))
        if line[0] == "small":
            return "; ".join(shown_world(small(self.world)[0]))
        if line[0] == "holds":
            points = [str(point) for point in holds(self.world, line[2])]
            return ",".join(points) if points else "-"
        if line[0] == "ask":
            return shown_answer(answered(self.world, line[2], line[1][0]))
        if line[0] == "check":
            return "let by" if lets(self.world, line[3], line[1][0], line[2], line[4]) else "not"
        if line[0] == "mend":
            return self.mend_paper(line)
        if line[0] == "say":
            self.world = said(self.world, line[1][0], [(line[2], line[3])])
        else:
            self.world = changed(self.world, line[2])
        return "ok"

    def mend_paper(self, line):
        """The answer behind a change, its paper mended; the changed world is kept."""
        point = line[1][0]
        if not lets(self.world, line[3], point, line[2], line[4]):
            raise NoPaper()
        answer = mended(self.world, line[3], point, line[2], line[4], line[5])
        self.world = changed(self.world, line[5])
        return shown_answer(answer)


def shown_answer(answer):
    """The text of a truth and its paper."""
    return ("yes : " if answer[0] else "no : ") + "; ".join(shown_paper(answer[1]))


def read_line(row):
    """What a row tells a desk, as a tuple: a word of what is asked, the row's points, and what else it tells."""
    try:
        return line_of(row)
    except NoText:
        raise NoLine() from None


def line_of(row):
    """What a row tells a desk; texts within it that can't be read are refused as they are."""
    if row in ("world", "small"):
        return (row, ())
    words = row.partition(" ")
    head = words[0]
    rest = words[2]
    if head == "world":
        return ("keep", (), read_world(rows_in(rest)))
    if head == "machine":
        return ("machine", (), read_machine(rows_in(rest)))
    if head == "holds":
        return (head, (), read_sentence(rest))
    if head == "plain":
        return (head, (), read_plain(rest))
    if head == "change":
        change = read_change(rest)
        return (head, points_in_change(change), change)
    return pointed_line(head, rest)


def pointed_line(head, rest):
    """What a row of this first word that begins with a point tells."""
    if head == "ask":
        words = split_into(rest, " ", 2)
        return (head, (read_point(words[0]),), read_sentence(words[1]))
    if head == "say":
        words = split_into(rest, " ", 3)
        return (head, (read_point(words[0]),), read_hands(words[1]), read_sentence(words[2]))
    if head == "check":
        parts = split_into(rest, PARTS, 2)
        return (head,) + read_claimed(parts[0]) + (read_paper(rows_in(parts[1])),)
    if head == "mend":
        parts = split_into(rest, PARTS, 3)
        claimed = read_claimed(parts[0])
        change = read_change(parts[2])
        points = claimed[0] + points_in_change(change)
        return (head, points) + claimed[1:] + (read_paper(rows_in(parts[1])), change)
    raise NoLine()


def split_into(text, between, many):
    """So many parts of a text, the last of them all that is left."""
    parts = text.split(between, many - 1)
    if len(parts) != many:
        raise NoLine()
    return parts


def rows_in(text):
    """The rows that stand in a text, none where it is a dash."""
    return [] if text == "-" else text.split("; ")


def read_claimed(text):
    """The point, as a tuple of one, the truth and the sentence of a row that claims something."""
    words = split_into(text, " ", 3)
    if words[1] not in WORDS_OF_TRUTH:
        raise NoLine()
    return ((read_point(words[0]),), WORDS_OF_TRUTH[words[1]], read_sentence(words[2]))


def read_point(text):
    """A point, of whatever world."""
    if not is_figures(text, POINT_FIGURES):
        raise NoLine()
    return int(text)


def read_name(text):
    """A name."""
    if not is_name(text):
        raise NoLine()
    return text


def read_hands(text):
    """Hands."""
    if not is_hands(hands_in(text)):
        raise NoLine()
    return hands_in(text)


def read_change(text):
    """A change, of points of whatever world."""
    words = text.split(" ")
    if words[0] == "join" and len(words) == 4:
        return ("join", read_name(words[1]), read_point(words[2]), read_point(words[3]))
    if len(words) != 3:
        raise NoLine()
    if words[0] == "fact":
        return ("fact", read_name(words[1]), read_point(words[2]))
    if words[0] == "move":
        return ("move", read_point(words[1]), read_point(words[2]))
    if words[0] == "split":
        return ("split", read_name(words[1]), tuple([read_point(word) for word in words[2].split(",")]))
    raise NoLine()


def points_in_change(change):
    """The points of which a change speaks."""
    if change[0] == "split":
        return change[2]
    if change[0] == "move":
        return change[1:]
    return change[2:]
