"""Rows of words parted by single blanks, read word by word, and figures."""

from worldsay.errors import NoText

FIGURES = "0123456789"


class Words:
    """The words of a row, and how far they are read."""

    def __init__(self, row, text):
        self.row = row
        self.words = text.split(" ")
        self.place = 0

    def taken(self, fits):
        """The next word, where there is one that fits."""
        # Where words lack, the place is how many there are: one refusal serves both.
        if self.are_over() or not fits(self.words[self.place]):
            raise NoText(self.row, self.place)
        self.place = self.place + 1
        return self.words[self.place - 1]

    def are_over(self):
        """Whether all words are read."""
        return self.place == len(self.words)

    def finish(self):
        """Refuses a word too many."""
        if not self.are_over():
            raise NoText(self.row, self.place)


def is_figures(text, most):
    """Whether a text is a number from 0 on, written by at most so many figures."""
    if not 1 <= len(text) <= most or not all([sign in FIGURES for sign in text]):
        return False
    return text[0] != "0" or text == "0"


def is_point(text, many):
    """Whether a text writes a point of a world of so many."""
    return is_figures(text, 3) and int(text) < many
