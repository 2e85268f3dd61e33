"""Plain things: whole numbers, truths, texts, None, and tuples, lists and dicts of such."""

LONGEST_NAME = 8


def is_whole(thing):
    """Whether a plain thing is a whole number."""
    # For Python a truth is a whole number, too; here it is none.
    return isinstance(thing, int) and not isinstance(thing, bool)


def is_name(thing):
    """Whether a plain thing is a name."""
    if not isinstance(thing, str):
        return False
    # Sign by sign, since islower and isalpha let letters beyond a to z by.
    return 1 <= len(thing) <= LONGEST_NAME and all(["a" <= sign <= "z" for sign in thing])


def are_rising_names(things):
    """Whether each of some plain things is a name, greater than the one ahead of it."""
    ahead = ""
    for thing in things:
        if not is_name(thing) or thing <= ahead:
            return False
        ahead = thing
    return True


def alike(one, other):
    """Whether two plain things are of one kind and, part by part, alike."""
    # A list of pairs yet to be looked at, since things may stand deep within one another.
    waiting = [(one, other)]
    while waiting:
        pair = waiting.pop()
        if not fits(pair[0], pair[1]):
            return False
        waiting.extend(pairs_within(pair[0], pair[1]))
    return True


def kind_of(thing):
    """A word for the kind of a plain thing."""
    if isinstance(thing, bool):
        return "truth"
    if isinstance(thing, int):
        return "whole"
    if isinstance(thing, str):
        return "text"
    if isinstance(thing, tuple):
        return "tuple"
    if isinstance(thing, list):
        return "list"
    if isinstance(thing, dict):
        return "dict"
    return "none"


def fits(one, other):
    """Whether two plain things are of one kind and, but for what stands within them, alike."""
    kind = kind_of(one)
    if kind != kind_of(other):
        return False
    if kind == "dict":
        return set(one) == set(other)
    if kind in ("tuple", "list"):
        return len(one) == len(other)
    return one == other


def pairs_within(one, other):
    """What stands within two things that fit, as pairs that have to be alike."""
    kind = kind_of(one)
    if kind == "dict":
        return dict_pairs(one, other)
    if kind in ("tuple", "list"):
        return list(zip(one, other))
    return []


def dict_pairs(one, other):
    """Each key of a dict with the other dict's equal key, and what stands at both."""
    # Keys that are equal for Python, as True and 1, need not be alike: they are paired, too.
    keys = {}
    for key in other:
        keys[key] = key
    pairs = []
    for key in one:
        pairs.append((key, keys[key]))
        pairs.append((one[key], other[key]))
    return pairs
