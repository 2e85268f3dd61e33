"""Machines written as rows, and rows read as machines."""

from worldsay.errors import NoText
from worldsay.machines import MOST_BOXES, MOST_DEEDS, MOST_FACTS, MOST_SEERS
from worldsay.plain import is_name
from worldsay.reckonings import GREATEST, INNER, MOST_RECKONINGS
from worldsay.words import Words, is_figures

ROWS_BEHIND = {
    "": ("box",),
    "box": ("box", "hand", "deed", "fact"),
    "hand": ("hand", "deed", "fact"),
    "deed": ("lay", "deed", "fact"),
    "lay": ("lay", "deed", "fact"),
    "fact": ("fact",),
}


def shown_machine(machine):
    """The rows that write a machine."""
    rows = []
    for box in machine[0]:
        rows.append(" ".join(["box", box[0]] + [str(number) for number in box[1:]]))
    for pair in machine[1]:
        rows.append(" ".join(["hand", pair[0]] + list(pair[1])))
    for deed in machine[2]:
        rows.append("deed " + shown_reckoning(deed[0]))
        for lay in deed[1]:
            rows.append("lay " + lay[0] + " " + shown_reckoning(lay[1]))
    for pair in machine[3]:
        rows.append("fact " + pair[0] + " " + shown_reckoning(pair[1]))
    return rows


def shown_reckoning(reckoning):
    """The words of a reckoning."""
    if reckoning[0] == "num":
        return str(reckoning[1])
    if reckoning[0] == "box":
        return "box " + reckoning[1]
    return " ".join([reckoning[0]] + [shown_reckoning(inner) for inner in reckoning[1:]])


def read_machine(rows):
    """The machine that a list of rows writes."""
    if len(rows) == 0:
        raise NoText(0, 0)
    reading = MachineReading()
    for number, row in enumerate(rows):
        reading.read_row(Words(number, row))
    return reading.told_machine()


class MachineReading:
    """What is read of a machine so far."""

    def __init__(self):
        self.latest = ""
        self.boxes = []
        self.seers = []
        self.deeds = []
        self.facts = []
        self.left = 0

    def told_machine(self):
        """The machine that is read."""
        deeds = [(deed[0], tuple(deed[1])) for deed in self.deeds]
        return (tuple(self.boxes), tuple(self.seers), tuple(deeds), tuple(self.facts))

    def read_row(self, words):
        """Reads the next row."""
        self.latest = words.taken(lambda word: self.may_begin_row(word))
        if self.latest == "box":
            self.read_box(words)
        elif self.latest == "hand":
            self.read_seer(words)
        elif self.latest == "deed":
            self.deeds.append((self.read_whole_reckoning(words), []))
        elif self.latest == "lay":
            laid = [lay[0] for lay in self.deeds[-1][1]]
            name = words.taken(lambda word: self.is_box_name(word) and word not in laid)
            self.deeds[-1][1].append((name, self.read_whole_reckoning(words)))
        else:
            name = words.taken(lambda word: is_behind(word, self.facts))
            self.facts.append((name, self.read_whole_reckoning(words)))
        words.finish()

    def may_begin_row(self, word):
        """Whether a row of this first word may stand here."""
        if word not in ROWS_BEHIND[self.latest]:
            return False
        if word == "box":
            return len(self.boxes) < MOST_BOXES
        if word == "hand":
            return len(self.seers) < MOST_SEERS
        if word == "deed":
            return len(self.deeds) < MOST_DEEDS
        # Lays are bounded by their boxes' being unlike.
        return word == "lay" or len(self.facts) < MOST_FACTS

    def is_box_name(self, word):
        """Whether a word is the name of a box."""
        return word in [box[0] for box in self.boxes]

    def read_box(self, words):
        """Reads a box's row behind its first word."""
        name = words.taken(lambda word: is_name(word) and not self.is_box_name(word))
        least = read_number(words, -GREATEST, GREATEST)
        greatest = read_number(words, least, GREATEST)
        self.boxes.append((name, least, greatest, read_number(words, least, greatest)))

    def read_seer(self, words):
        """Reads a hand's row behind its first word."""
        name = words.taken(lambda word: is_behind(word, self.seers))
        seen = []
        while not words.are_over():
            low = seen[-1] if seen else ""
            seen.append(words.taken(lambda word: self.is_box_name(word) and word > low))
        self.seers.append((name, tuple(seen)))

    def read_whole_reckoning(self, words):
        """A reckoning of at most twenty in all, from the next word on."""
        self.left = MOST_RECKONINGS
        return self.read_reckoning(words)

    def read_reckoning(self, words):
        """A reckoning, of as many as are left, from the next word on."""
        head = words.taken(lambda word: self.left > 0 and (word == "box" or word in INNER or is_number(word)))
        self.left = self.left - 1
        if head == "box":
            return ("box", words.taken(lambda word: self.is_box_name(word)))
        if head not in INNER:
            return ("num", int(head))
        inner = []
        while len(inner) < INNER[head]:
            inner.append(self.read_reckoning(words))
        return (head,) + tuple(inner)


def is_behind(word, pairs):
    """Whether a word is a name greater than that of the last pair."""
    return is_name(word) and (len(pairs) == 0 or word > pairs[-1][0])


def is_number(word):
    """Whether a word writes a number from -999 to 999."""
    if word.startswith("-"):
        return is_figures(word[1:], 3) and word != "-0"
    return is_figures(word, 3)


def read_number(words, least, greatest):
    """A number from a least to a greatest one, by the next word."""
    return int(words.taken(lambda word: is_number(word) and least <= int(word) <= greatest))
