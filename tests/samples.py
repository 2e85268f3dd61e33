"""Sentences, worlds and other plain things for the tests, and slow readings of what the document says of them."""

from copy import deepcopy

BINDERS = ("least", "most")
STEPS = (("on",), ("back",), ("one", ("ann",)), ("one", ("ann", "bob")), ("pool", ("ann", "bob", "cid", "dan")))
HANDS = (("ann",), ("bob", "cid"), ("ann", "bob", "cid", "dan"))

# Plain things that are neither name, hands, step, sentence, world nor a part of one.
JUNK = (None, True, False, 0, 1, -1, 10 ** 99, "", "A", "a b", "fact", (), [], {}, ((),), [()], ["fact", "a"],
        ("fact",), ("fact", "a", "b"), {"fact": "a"}, (["fact"], "a"), ({"fact": 1}, "a"), (("fact",), "a"),
        ("fact", ["a"]), ("nothing", "a"), (None, "a"), (True, "a"), ("",), ("on", ()), ("one",), ("one", ()))


def nested(wrap, inner, times):
    """A thing with a wrapping laid round it so many times."""
    for count in range(times):
        inner = wrap(inner)
    return inner


def places_in(thing):
    """All paths into a plain thing of tuples, itself first."""
    paths = [()]
    if isinstance(thing, tuple):
        for place, part in enumerate(thing):
            paths.extend((place,) + path for path in places_in(part))
    return paths


def replaced(thing, path, new):
    """A thing of tuples with another one at the end of a path."""
    if not path:
        return deepcopy(new)
    parts = list(thing)
    parts[path[0]] = replaced(parts[path[0]], path[1:], new)
    return tuple(parts)


def random_sentence(chance, size, bound=(), shows=0):
    """A sentence of at most so many things; bound are the binders round it: (name, may be wished)."""
    wishes = [name for name, even in bound if even]
    heads = ["fact"] + ["wish"] * 3 * bool(wishes)
    if size > 1:
        heads = ["not", "some", "every"] + ["least", "most"] * 2 * (len(bound) < 4)
    if size > 2:
        heads += ["and", "or"] * 3 + ["show"] * 2 * (shows < 3)
    head = chance.choice(heads)
    if head == "fact":
        return (head, chance.choice("abc"))
    if head == "wish":
        return (head, chance.choice(wishes))
    if head == "not":
        # Under a not nothing may be wished, till another one stands within it.
        return (head, random_sentence(chance, size - 1, tuple((name, even is False) if even is not None
                                                              else (name, None) for name, even in bound), shows))
    if head in ("some", "every"):
        return (head, chance.choice(STEPS), random_sentence(chance, size - 1, bound, shows))
    if head in BINDERS:
        name = chance.choice([name for name in ("p", "q", "r", "s", "t") if name not in dict(bound)])
        return (head, name, random_sentence(chance, size - 1, bound + ((name, True),), shows))
    first = chance.randint(1, size - 2)
    if head == "show":
        # None: never to be wished within it, whatever nots come.
        bound, shows = tuple((name, None) for name, even in bound), shows + 1
    parts = (random_sentence(chance, first, bound, shows), random_sentence(chance, size - 1 - first, bound, shows))
    return (head, chance.choice(HANDS)) + parts if head == "show" else (head,) + parts


def loose_sentence(chance, size):
    """Like a sentence, but for what the document says of wishes, binders and shows."""
    if size <= 1:
        return (chance.choice(("fact", "wish", "wish")), chance.choice("pq"))
    head = chance.choice(("not", "not", "and", "or", "some", "least", "most", "least", "most", "show"))
    if head == "not":
        return (head, loose_sentence(chance, size - 1))
    if head == "some":
        return (head, chance.choice(STEPS), loose_sentence(chance, size - 1))
    if head in BINDERS:
        return (head, chance.choice("pqrstu"), loose_sentence(chance, size - 1))
    first = chance.randint(1, max(1, size - 2))
    parts = (loose_sentence(chance, first), loose_sentence(chance, size - 1 - first))
    return (head, chance.choice(HANDS)) + parts if head == "show" else (head,) + parts


def slow_name(thing):
    return isinstance(thing, str) and 1 <= len(thing) <= 8 and set(thing) <= set("abcdefghijklmnopqrstuvwxyz")


def slow_hands(thing):
    return (isinstance(thing, tuple) and len(thing) in (1, 2, 3, 4) and all(map(slow_name, thing))
            and sorted(set(thing)) == list(thing))


def slow_step(thing):
    if thing in (("on",), ("back",)):
        return True
    return isinstance(thing, tuple) and len(thing) == 2 and thing[0] in ("one", "pool") and slow_hands(thing[1])


def slow_parts(thing):
    """The parts of a thing that looks like a sentence, else None."""
    if not isinstance(thing, tuple) or not thing or not isinstance(thing[0], str):
        return None
    head, rest = thing[0], thing[1:]
    if head in ("fact", "wish"):
        return () if len(rest) == 1 and slow_name(rest[0]) else None
    if head == "not":
        return rest if len(rest) == 1 else None
    if head in ("and", "or"):
        return rest if len(rest) == 2 else None
    if head in ("some", "every"):
        return rest[1:] if len(rest) == 2 and slow_step(rest[0]) else None
    if head in BINDERS:
        return rest[1:] if len(rest) == 2 and slow_name(rest[0]) else None
    if head == "show":
        return rest[1:] if len(rest) == 3 and slow_hands(rest[0]) else None
    return None


def slow_walk(thing, chain=(), rows=None):
    """All things of a sentence by their numbers, as (thing, chain): what is round it, outermost first,
    as tuples (number, thing, which part of it goes on). None of what doesn't look like a sentence."""
    rows = [] if rows is None else rows
    parts = slow_parts(thing)
    if parts is None:
        return None
    number = len(rows)
    rows.append((thing, chain))
    for place, part in enumerate(parts):
        if slow_walk(part, chain + ((number, thing, place),), rows) is None:
            return None
    return rows


def slow_sentence(thing):
    rows = slow_walk(thing)
    if rows is None or len(rows) > 60:
        return False
    return all(slow_may_stand(thing, [outer for number, outer, place in chain]) for thing, chain in rows)


def slow_may_stand(thing, outer):
    binders = [inner[1] for inner in outer + [thing] if inner[0] in BINDERS]
    shows = [inner for inner in outer + [thing] if inner[0] == "show"]
    if len(binders) != len(set(binders)) or len(binders) > 4 or len(shows) > 3:
        return False
    if thing[0] != "wish":
        return True
    own = [place for place, inner in enumerate(outer) if inner[0] in BINDERS and inner[1] == thing[1]]
    heads = [inner[0] for inner in outer[own[-1] + 1:]] if own else []
    return bool(own) and heads.count("not") % 2 == 0 and "show" not in heads


def random_world(chance, many):
    """A world of so many points, with facts and hands of some names."""
    points = range(many)
    facts = tuple((name, tuple(point for point in points if chance.random() < 0.5))
                  for name in ("a", "b", "c") if chance.random() < 0.8)
    moves = tuple(tuple(point for point in points if chance.random() < 0.3) for start in points)
    sights = tuple((hand, random_parts(chance, many)) for hand in ("ann", "bob", "cid") if chance.random() < 0.8)
    return (facts, moves, sights)


def random_parts(chance, many):
    parts = {}
    for point in range(many):
        parts.setdefault(chance.randrange(1 + many // 2), []).append(point)
    return tuple(sorted(tuple(part) for part in parts.values()))


def slow_points(thing, many):
    return (isinstance(thing, tuple) and all(type(point) is int and 0 <= point < many for point in thing)
            and sorted(set(thing)) == list(thing))


def slow_world(thing):
    if not isinstance(thing, tuple) or len(thing) != 3 or not all(isinstance(part, tuple) for part in thing):
        return False
    facts, moves, sights = thing
    if not moves or not all(slow_points(points, len(moves)) for points in moves):
        return False
    for pairs in (facts, sights):
        if not all(isinstance(pair, tuple) and len(pair) == 2 and slow_name(pair[0]) for pair in pairs):
            return False
        if sorted({pair[0] for pair in pairs}) != [pair[0] for pair in pairs]:
            return False
    return (all(slow_points(points, len(moves)) for name, points in facts)
            and all(slow_partition(parts, len(moves)) for hand, parts in sights))


def slow_partition(parts, many):
    if not isinstance(parts, tuple) or not all(slow_points(part, many) and part for part in parts):
        return False
    return (all(sum(part.count(point) for part in parts) == 1 for point in range(many))
            and sorted(parts) == list(parts))
