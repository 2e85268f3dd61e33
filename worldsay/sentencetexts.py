"""Sentences written as texts, and texts read as sentences."""

from worldsay.plain import is_name
from worldsay.sentences import FORMS, MOST_THINGS, is_hands, may_begin, may_take
from worldsay.words import Words


def shown_sentence(sentence):
    """The text that writes a sentence."""
    return written(sentence, dict(FORMS))


def read_sentence(text):
    """The sentence that a text writes."""
    return read_by(text, dict(FORMS), MOST_THINGS)


def written(sentence, forms):
    """The text of a sentence whose heads take what these forms tell."""
    words = []
    waiting = [sentence]
    while waiting:
        thing = waiting.pop()
        form = forms[thing[0]]
        words.append(thing[0])
        if form[0] != "":
            words.append(shown_taken(thing[1], form[0]))
        # The first part goes last onto the list, so that it is written next.
        for part in reversed(thing[len(thing) - form[1]:]):
            waiting.append(part)
    return " ".join(words)


def shown_taken(taken, sort):
    """The words of what a head takes."""
    if sort == "name":
        return taken
    if sort == "hands":
        return ",".join(taken)
    if len(taken) == 1:
        return taken[0]
    return taken[0] + " " + ",".join(taken[1])


def read_by(text, forms, most):
    """The sentence, of at most so many things, that a text writes by these forms."""
    reading = Reading(text, forms, most)
    sentence = reading.read_thing(())
    reading.words.finish()
    return sentence


class Reading:
    """A text that is read as a sentence by some forms, and how many things it may still have."""

    def __init__(self, text, forms, most):
        self.words = Words(0, text)
        self.forms = forms
        self.left = most

    def read_thing(self, around):
        """The thing that begins at the next word, within these things."""
        head = self.words.taken(lambda word: self.left > 0 and word in self.forms and may_begin(word, around))
        self.left = self.left - 1
        form = self.forms[head]
        thing = (head,)
        if form[0] != "":
            thing = (head, self.read_taken(head, form[0], around))
        # What is wished and bound is told by heads and names: parts yet to come don't matter.
        within = around + (thing,)
        parts = []
        while len(parts) < form[1]:
            parts.append(self.read_thing(within))
        return thing + tuple(parts)

    def read_taken(self, head, sort, around):
        """What a head takes, from the next word on."""
        if sort == "name":
            return self.words.taken(lambda word: is_name(word) and may_take(head, word, around))
        if sort == "hands":
            return self.read_hands()
        step = self.words.taken(lambda word: word in ("on", "back", "one", "pool"))
        if step in ("on", "back"):
            return (step,)
        return (step, self.read_hands())

    def read_hands(self):
        """Hands, by the next word."""
        return hands_in(self.words.taken(lambda word: is_hands(hands_in(word))))


def hands_in(word):
    """What a word tells as hands, if it does."""
    return tuple(word.split(","))
