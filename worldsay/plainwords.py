"""Plain sentences: the words that people use, and the core sentences that say the same."""

from worldsay.errors import TooMany
from worldsay.sentences import MOST_BINDERS, MOST_SHOWS, MOST_THINGS, has_form, head_of

MOST_PLAIN = 30
ON = ("on",)
BACK = ("back",)

# For each head: what stands right behind it ("" for nothing), and how many plain sentences then.
PLAIN_FORMS = {
    "fact": ("name", 0),
    "not": ("", 1),
    "and": ("", 2),
    "or": ("", 2),
    "knows": ("name", 1),
    "may": ("name", 1),
    "whether": ("name", 1),
    "all": ("hands", 1),
    "common": ("hands", 1),
    "pool": ("hands", 1),
    "tell": ("hands", 2),
    "told": ("hands", 2),
    "then": ("", 1),
    "must": ("", 1),
    "before": ("", 1),
    "sometime": ("", 1),
    "always": ("", 1),
    "surely": ("", 1),
    "spared": ("", 1),
    "until": ("", 2),
    "till": ("", 2),
    "once": ("", 1),
    "ever": ("", 1),
    "since": ("", 2),
}

# How many things a head's core has beside those of its parts; 1 where none is told.
OWN_THINGS = {"whether": 4, "common": 4, "tell": 2, "told": 3, "sometime": 4, "always": 4, "surely": 7,
              "spared": 7, "until": 5, "till": 8, "once": 4, "ever": 4, "since": 5}
BINDING = ("common", "sometime", "always", "surely", "spared", "until", "till", "once", "ever", "since")
SHOWING = ("tell", "told")


def is_plain(thing):
    """Whether a plain thing is a plain sentence."""
    many = 0
    waiting = [thing]
    while waiting:
        many = many + 1
        # Counted ahead of all else, so that things without measure are left at once.
        if many > MOST_PLAIN:
            return False
        thing = waiting.pop()
        head = head_of(thing)
        if head not in PLAIN_FORMS or not has_form(thing, PLAIN_FORMS[head]):
            return False
        waiting.extend(plain_parts(thing))
    return True


def plain_parts(plain):
    """The plain sentences right within a plain sentence, in order."""
    return plain[len(plain) - PLAIN_FORMS[plain[0]][1]:]


def cored(plain):
    """The core sentence that says the same as a plain one."""
    size = core_size(plain)
    if size[0] > MOST_THINGS or size[1] > MOST_BINDERS or size[2] > MOST_SHOWS:
        raise TooMany()
    return core_within(plain, 0)


def core_size(plain):
    """How many things a core would have, and binders and shows round one another."""
    sizes = [core_size(part) for part in plain_parts(plain)]
    many = OWN_THINGS.get(plain[0], 1) + sum([size[0] for size in sizes])
    # These write their first part twice.
    if plain[0] in ("whether", "tell", "told"):
        many = many + sizes[0][0]
    binders = max([size[1] for size in sizes], default=0)
    shows = max([size[2] for size in sizes], default=0)
    if plain[0] in BINDING:
        binders = binders + 1
    if plain[0] in SHOWING:
        shows = shows + 1
    return (many, binders, shows)


def core_within(plain, depth):
    """The core of a plain sentence that stands within so many binders."""
    head = plain[0]
    if head == "fact":
        return plain
    if head in BINDING:
        parts = [core_within(part, depth + 1) for part in plain_parts(plain)]
        return bound_core(plain, "abcd"[depth], parts)
    parts = [core_within(part, depth) for part in plain_parts(plain)]
    if head in ("not", "and", "or"):
        return (head,) + tuple(parts)
    if head in SHOWING:
        return shown_core(plain, parts)
    return stepped_core(plain, parts[0])


def stepped_core(plain, part):
    """The core of a word that steps once, from that of its part."""
    head = plain[0]
    if head in ("then", "must", "before"):
        return ("every" if head == "must" else "some", BACK if head == "before" else ON, part)
    if head == "all":
        return ("every", ("one", plain[1]), part)
    if head == "pool":
        return ("every", ("pool", plain[1]), part)
    step = ("one", (plain[1],))
    if head == "may":
        return ("some", step, part)
    knows = ("every", step, part)
    if head == "knows":
        return knows
    return ("or", knows, ("every", step, ("not", part)))


def shown_core(plain, parts):
    """The core of a word that shows, from those of its parts."""
    show = ("show", plain[1], parts[0], parts[1])
    if plain[0] == "tell":
        return ("and", parts[0], show)
    return ("or", ("not", parts[0]), show)


def bound_core(plain, name, parts):
    """The core of a word that binds this name, from those of its parts."""
    head = plain[0]
    if head == "common":
        return ("most", name, ("and", parts[0], ("every", ("one", plain[1]), ("wish", name))))
    some = ("some", BACK if head in ("once", "since") else ON, ("wish", name))
    every = ("every", BACK if head == "ever" else ON, ("wish", name))
    if head in ("always", "ever"):
        return ("most", name, ("and", parts[0], every))
    if head == "spared":
        return ("most", name, ("and", parts[0], ("or", every, some)))
    again = ("and", some, every) if head in ("surely", "till") else some
    if head in ("until", "till", "since"):
        return ("least", name, ("or", parts[1], ("and", parts[0], again)))
    return ("least", name, ("or", parts[0], again))
