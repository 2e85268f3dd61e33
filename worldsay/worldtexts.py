"""Worlds written as rows, and rows read as worlds."""

from worldsay.errors import NoText
from worldsay.plain import is_name
from worldsay.words import Words, is_figures, is_point
from worldsay.worlds import is_points

MOST_FIGURES = 3
ROWS_BEHIND = {
    "points": ("fact", "move", "hand"),
    "fact": ("fact", "move", "hand"),
    "move": ("move", "hand"),
    "hand": ("hand",),
}


def shown_world(world):
    """The rows that write a world."""
    rows = ["points " + str(len(world[1]))]
    for pair in world[0]:
        rows.append(" ".join(["fact", pair[0]] + shown_points(pair[1])))
    for point, points in enumerate(world[1]):
        if len(points) > 0:
            rows.append(" ".join(["move", str(point)] + shown_points(points)))
    for pair in world[2]:
        parts = [",".join(shown_points(part)) for part in pair[1]]
        rows.append(" ".join(["hand", pair[0]] + parts))
    return rows


def shown_points(points):
    """Points as words."""
    return [str(point) for point in points]


def read_world(rows):
    """The world that a list of rows writes."""
    if len(rows) == 0:
        raise NoText(0, 0)
    reading = WorldReading(rows[0])
    for number, row in enumerate(rows):
        if number > 0:
            reading.read_row(Words(number, row))
    return reading.told_world()


class WorldReading:
    """What is read of a world so far."""

    def __init__(self, text):
        words = Words(0, text)
        self.latest = words.taken(lambda word: word == "points")
        self.many = int(words.taken(lambda word: is_figures(word, MOST_FIGURES) and word != "0"))
        words.finish()
        self.facts = []
        self.starts = []
        self.moves = {}
        self.sights = []

    def told_world(self):
        """The world that is read."""
        moves = [self.moves.get(point, ()) for point in range(self.many)]
        return (tuple(self.facts), tuple(moves), tuple(self.sights))

    def read_row(self, words):
        """Reads a row behind the first one."""
        allowed = ROWS_BEHIND[self.latest]
        self.latest = words.taken(lambda word: word in allowed)
        if self.latest == "fact":
            name = read_rising_name(words, self.facts)
            self.facts.append((name, self.read_points(words, [])))
        elif self.latest == "hand":
            name = read_rising_name(words, self.sights)
            self.sights.append((name, self.read_parts(words)))
        else:
            start = self.read_point(words, self.starts)
            self.starts.append(start)
            self.moves[start] = self.read_points(words, [self.read_point(words, [])])

    def read_point(self, words, ahead):
        """A point greater than the last one of those ahead, by the next word."""
        low = ahead[-1] if ahead else -1
        return int(words.taken(lambda word: is_point(word, self.many) and int(word) > low))

    def read_points(self, words, points):
        """Rising points, some of them read already, by all words that are left."""
        while not words.are_over():
            points = points + [self.read_point(words, points)]
        return tuple(points)

    def read_parts(self, words):
        """Parts in which each point stands once, by all words that are left."""
        parts = []
        seen = {}
        while not words.are_over() or len(seen) < self.many:
            word = words.taken(lambda text: self.is_next_part(text, parts, seen))
            parts.append(points_in(word))
            for point in parts[-1]:
                seen[point] = True
        return tuple(parts)

    def is_next_part(self, text, parts, seen):
        """Whether a text writes a part that may stand behind these, whose points are seen."""
        if not all([is_point(word, self.many) for word in text.split(",")]):
            return False
        part = points_in(text)
        if not is_points(part, self.many) or any([point in seen for point in part]):
            return False
        return len(parts) == 0 or part > parts[-1]


def read_rising_name(words, pairs):
    """A name greater than that of the last pair, by the next word."""
    low = pairs[-1][0] if pairs else ""
    return words.taken(lambda word: is_name(word) and word > low)


def points_in(text):
    """The points that a text writes, parted by commas."""
    return tuple([int(word) for word in text.split(",")])
