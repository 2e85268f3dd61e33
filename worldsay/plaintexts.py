"""Plain sentences written as texts, and texts read as plain sentences."""

from worldsay.plainwords import MOST_PLAIN, PLAIN_FORMS
from worldsay.sentencetexts import read_by, written


def shown_plain(plain):
    """The text that writes a plain sentence."""
    return written(plain, dict(PLAIN_FORMS))


def read_plain(text):
    """The plain sentence that a text writes."""
    return read_by(text, dict(PLAIN_FORMS), MOST_PLAIN)
