"""Reckonings: whole numbers told by boxes' values."""

from worldsay.plain import is_whole

MOST_RECKONINGS = 20
GREATEST = 999
# How many reckonings stand within each, but num and box, which have none.
INNER = {"add": 2, "sub": 2, "times": 2, "less": 2, "same": 2, "pick": 3}


def is_reckoning(thing, boxes):
    """Whether a plain thing is a reckoning over boxes of these names."""
    return is_reckoning_of(thing, boxes, MOST_RECKONINGS)


def is_reckoning_of(thing, boxes, most):
    """Whether a plain thing is a reckoning, of at most so many in all, over boxes of these names."""
    many = 0
    waiting = [thing]
    while waiting:
        many = many + 1
        # Counted ahead of all else, so that things without measure are left at once.
        if many > most:
            return False
        inner = waiting.pop()
        if not is_reckoned_so(inner, boxes):
            return False
        if inner[0] in INNER:
            waiting.extend(inner[1:])
    return True


def is_reckoned_so(thing, boxes):
    """Whether a plain thing is like a reckoning, whatever stands where others should stand within it."""
    if not isinstance(thing, tuple) or len(thing) == 0 or not isinstance(thing[0], str):
        return False
    if thing[0] == "num":
        return len(thing) == 2 and is_bounded(thing[1])
    if thing[0] == "box":
        return len(thing) == 2 and isinstance(thing[1], str) and thing[1] in boxes
    return thing[0] in INNER and len(thing) == 1 + INNER[thing[0]]


def is_bounded(thing):
    """Whether a plain thing is a whole number from -999 to 999."""
    return is_whole(thing) and -GREATEST <= thing <= GREATEST


def reckoned(reckoning, values):
    """The number that a reckoning tells by boxes' values."""
    head = reckoning[0]
    if head == "num":
        return reckoning[1]
    if head == "box":
        return values[reckoning[1]]
    numbers = [reckoned(inner, values) for inner in reckoning[1:]]
    if head == "pick":
        return numbers[1] if numbers[0] != 0 else numbers[2]
    if head == "add":
        return numbers[0] + numbers[1]
    if head == "sub":
        return numbers[0] - numbers[1]
    if head == "times":
        return numbers[0] * numbers[1]
    if head == "less":
        return 1 if numbers[0] < numbers[1] else 0
    return 1 if numbers[0] == numbers[1] else 0
