"""Hands, steps and sentences: what they look like, and what may stand within what."""

from worldsay.plain import are_rising_names, is_name

MOST_HANDS = 4
MOST_THINGS = 60
MOST_BINDERS = 4
MOST_SHOWS = 3

# For each head: what stands right behind it ("" for nothing), and how many sentences then.
FORMS = {
    "fact": ("name", 0),
    "wish": ("name", 0),
    "not": ("", 1),
    "and": ("", 2),
    "or": ("", 2),
    "some": ("step", 1),
    "every": ("step", 1),
    "least": ("name", 1),
    "most": ("name", 1),
    "show": ("hands", 2),
}


def is_hands(thing):
    """Whether a plain thing is hands."""
    if not isinstance(thing, tuple):
        return False
    return 1 <= len(thing) <= MOST_HANDS and are_rising_names(thing)


def is_step(thing):
    """Whether a plain thing is a step."""
    if not isinstance(thing, tuple):
        return False
    if len(thing) == 1:
        return thing[0] in ("on", "back")
    return len(thing) == 2 and thing[0] in ("one", "pool") and is_hands(thing[1])


def is_sentence(thing):
    """Whether a plain thing is a sentence."""
    many = 0
    # Each thing waits together with the things round it, outermost first.
    waiting = [(thing, ())]
    while waiting:
        many = many + 1
        # Counted ahead of all else, so that things without measure are left at once.
        if many > MOST_THINGS:
            return False
        pair = waiting.pop()
        if not is_formed(pair[0]) or not may_stand(pair[0], pair[1]):
            return False
        around = pair[1] + (pair[0],)
        waiting.extend([(part, around) for part in parts_of(pair[0])])
    return True


def is_formed(thing):
    """Whether a plain thing is like a sentence, whatever stands where its parts should."""
    head = head_of(thing)
    return head in FORMS and has_form(thing, FORMS[head])


def head_of(thing):
    """The head of a plain thing that may be like a sentence, else no sign."""
    if not isinstance(thing, tuple) or len(thing) == 0:
        return ""
    # A list or a dict can't be looked for among the heads.
    return thing[0] if isinstance(thing[0], str) else ""


def has_form(thing, form):
    """Whether behind its head a tuple has what a form tells, whatever stands where its parts should."""
    if form[0] == "":
        return len(thing) == 1 + form[1]
    return len(thing) == 2 + form[1] and is_taken(thing[1], form[0])


def is_taken(thing, wanted):
    """Whether a plain thing is what a head takes, by a word of the forms."""
    if wanted == "name":
        return is_name(thing)
    if wanted == "step":
        return is_step(thing)
    return is_hands(thing)


def parts_of(sentence):
    """The sentences right within a sentence, in order."""
    return sentence[len(sentence) - FORMS[sentence[0]][1]:]


def is_binder(sentence):
    """Whether a sentence is a least or a most."""
    return sentence[0] in ("least", "most")


def may_stand(sentence, around):
    """Whether a sentence's head may stand within these things, outermost first."""
    return may_begin(sentence[0], around) and may_take(sentence[0], sentence[1], around)


def may_begin(head, around):
    """Whether a sentence of this head, whatever it takes, may begin within these things."""
    if head in ("least", "most"):
        return len(names_bound(around)) < MOST_BINDERS
    if head == "show":
        return len([thing for thing in around if thing[0] == "show"]) < MOST_SHOWS
    return True


def may_take(head, taken, around):
    """Whether what a head takes, if it is a name, may stand behind it within these things."""
    if head == "wish":
        return may_wish(taken, around)
    if head in ("least", "most"):
        return taken not in names_bound(around)
    return True


def may_wish(name, around):
    """Whether a wish of this name may stand within these things, outermost first."""
    nots = 0
    for thing in reversed(around):
        if thing[0] == "show":
            return False
        if is_binder(thing) and thing[1] == name:
            return nots % 2 == 0
        if thing[0] == "not":
            nots = nots + 1
    return False


def names_bound(around):
    """The names of the binders among these things."""
    return [thing[1] for thing in around if is_binder(thing)]
