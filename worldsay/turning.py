"""Sentences turned, so that nots stand ahead of facts alone, papers turned with them, and binders gone through."""

from worldsay.nodes import Frame
from worldsay.sentences import is_binder, is_sentence, parts_of

CONTRARY = {"and": "or", "or": "and", "some": "every", "every": "some", "least": "most", "most": "least"}


def turned(sentence):
    """A sentence that says the same, with each not just ahead of a fact."""
    return turned_thing(sentence, False)


def turned_thing(thing, odd):
    """A thing turned, or its contrary, where an odd number of nots stands round it."""
    if thing[0] == "not":
        return turned_thing(thing[1], not odd)
    if thing[0] == "fact":
        return ("not", thing) if odd else thing
    head = CONTRARY.get(thing[0], thing[0]) if odd else thing[0]
    parts = [turned_thing(part, odd) for part in parts_of(thing)]
    # A wish has none and stays: its binder is turned to the contrary with it.
    return (head,) + thing[1:len(thing) - len(parts)] + tuple(parts)


def turned_paper(sentence, paper):
    """A paper for the turned sentence, of one for a sentence."""
    frame = Frame(sentence)
    places = turned_places(frame)
    rows = []
    for row in paper:
        head = frame.things[row[0]][0]
        # What a not says its part says, with the other truth.
        if head != "not":
            choice = places[row[4]] if head in ("and", "or") and row[4] is not None else row[4]
            truth = row[2] if frame.nots[row[0]] % 2 == 0 else not row[2]
            rows.append((places[row[0]], row[1], truth, row[3], choice))
            if is_denied(frame, row[0]):
                rows.append((places[row[0]] + 1,) + row[1:])
    return tuple(rows)


def turned_places(frame):
    """For each thing of a sentence its number in the turned one, of a not that of its part."""
    places = []
    many = 0
    for number, thing in enumerate(frame.things):
        places.append(many)
        if thing[0] != "not":
            many = many + 2 if is_denied(frame, number) else many + 1
    return places


def is_denied(frame, number):
    """Whether a thing is a fact that has a not ahead of it in the turned sentence."""
    return frame.things[number][0] == "fact" and frame.nots[number] % 2 == 1


def unfolded(sentence):
    """What stands within a binder, with the whole sentence in the place of its wishes, or None."""
    if not is_binder(sentence):
        return None
    told = with_wishes(sentence[2], sentence)
    return told if is_sentence(told) else None


def with_wishes(thing, binder):
    """A thing with a whole binder in the place of each wish of its name."""
    if thing[0] == "wish" and thing[1] == binder[1]:
        return binder
    parts = [with_wishes(part, binder) for part in parts_of(thing)]
    return thing[:len(thing) - len(parts)] + tuple(parts)
