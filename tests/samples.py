"""Sentences, worlds and other plain things for the tests, and slow readings of what the document says of them."""

from copy import deepcopy

BINDERS = ("least", "most")
STEPS = (("on",), ("back",), ("one", ("ann",)), ("one", ("bob",)), ("one", ("ann", "bob")), ("one", ("bob", "cid")),
         ("pool", ("ann", "bob")), ("pool", ("ann",)), ("pool", ("ann", "bob", "cid", "dan")))
HANDS = (("ann",), ("bob", "cid"), ("ann", "bob", "cid", "dan"))

# Plain things that are neither name, hands, step, sentence, world nor a part of one.
JUNK = (None, True, False, 0, 1, -1, 10 ** 99, "", "A", "a b", "fact", (), [], {}, ((),), [()], ["fact", "a"],
        ("fact",), ("fact", "a", "b"), {"fact": "a"}, (["fact"], "a"), ({"fact": 1}, "a"), (("fact",), "a"),
        ("fact", ["a"]), ("nothing", "a"), (None, "a"), (True, "a"), ("",), ("on", ()), ("one",), ("one", ()))


def nested(wrap, inner, times):
    """A thing with a wrapping laid round it so many times."""
    for count in range(times):
        inner = wrap(inner)
    return inner


def places_in(thing):
    """All paths into a plain thing of tuples, itself first."""
    paths = [()]
    if isinstance(thing, tuple):
        for place, part in enumerate(thing):
            paths.extend((place,) + path for path in places_in(part))
    return paths


def replaced(thing, path, new):
    """A thing of tuples with another one at the end of a path."""
    if not path:
        return deepcopy(new)
    parts = list(thing)
    parts[path[0]] = replaced(parts[path[0]], path[1:], new)
    return tuple(parts)


def random_sentence(chance, size, bound=(), shows=0):
    """A sentence of at most so many things; bound are the binders round it: (name, may be wished)."""
    wishes = [name for name, even in bound if even]
    heads = ["fact"] + ["wish"] * 3 * bool(wishes)
    if size > 1:
        heads = ["not", "some", "every"] + ["least", "most"] * 2 * (len(bound) < 4)
    if size > 2:
        heads += ["and", "or"] * 3 + ["show"] * 2 * (shows < 3)
    head = chance.choice(heads)
    if head == "fact":
        return (head, chance.choice("abc"))
    if head == "wish":
        return (head, chance.choice(wishes))
    if head == "not":
        # Under a not nothing may be wished, till another one stands within it.
        return (head, random_sentence(chance, size - 1, tuple((name, even is False) if even is not None
                                                              else (name, None) for name, even in bound), shows))
    if head in ("some", "every"):
        return (head, chance.choice(STEPS), random_sentence(chance, size - 1, bound, shows))
    if head in BINDERS:
        name = chance.choice([name for name in ("p", "q", "r", "s", "t") if name not in dict(bound)])
        return (head, name, random_sentence(chance, size - 1, bound + ((name, True),), shows))
    first = chance.randint(1, size - 2)
    if head == "show":
        # None: never to be wished within it, whatever nots come.
        bound, shows = tuple((name, None) for name, even in bound), shows + 1
    parts = (random_sentence(chance, first, bound, shows), random_sentence(chance, size - 1 - first, bound, shows))
    return (head, chance.choice(HANDS)) + parts if head == "show" else (head,) + parts


def roomy_sentence(chance, size):
    """A sentence of steps within one to three shows, of somewhat more things than so many."""
    shows = chance.randint(1, 3)
    inner = random_sentence(chance, size, (), shows)
    for count in range(chance.randint(1, 3)):
        step = chance.choice(STEPS[2:8])
        inner = (chance.choice(("some", "every")), step, inner)
        if chance.random() < 0.5:
            inner = (chance.choice(("and", "or")), inner, random_sentence(chance, 2, (), shows))
    for count in range(shows):
        inner = ("show", chance.choice(HANDS), random_sentence(chance, chance.randint(1, 3), (), 3), inner)
    return inner


def loose_sentence(chance, size):
    """Like a sentence, but for what the document says of wishes, binders and shows."""
    if size <= 1:
        return (chance.choice(("fact", "wish", "wish")), chance.choice("pq"))
    head = chance.choice(("not", "not", "and", "or", "some", "least", "most", "least", "most", "show"))
    if head == "not":
        return (head, loose_sentence(chance, size - 1))
    if head == "some":
        return (head, chance.choice(STEPS), loose_sentence(chance, size - 1))
    if head in BINDERS:
        return (head, chance.choice("pqrstu"), loose_sentence(chance, size - 1))
    first = chance.randint(1, max(1, size - 2))
    parts = (loose_sentence(chance, first), loose_sentence(chance, size - 1 - first))
    return (head, chance.choice(HANDS)) + parts if head == "show" else (head,) + parts


def slow_name(thing):
    return isinstance(thing, str) and 1 <= len(thing) <= 8 and set(thing) <= set("abcdefghijklmnopqrstuvwxyz")


def slow_hands(thing):
    return (isinstance(thing, tuple) and len(thing) in (1, 2, 3, 4) and all(map(slow_name, thing))
            and sorted(set(thing)) == list(thing))


def slow_step(thing):
    if thing in (("on",), ("back",)):
        return True
    return isinstance(thing, tuple) and len(thing) == 2 and thing[0] in ("one", "pool") and slow_hands(thing[1])


def slow_parts(thing):
    """The parts of a thing that looks like a sentence, else None."""
    if not isinstance(thing, tuple) or not thing or not isinstance(thing[0], str):
        return None
    head, rest = thing[0], thing[1:]
    if head in ("fact", "wish"):
        return () if len(rest) == 1 and slow_name(rest[0]) else None
    if head == "not":
        return rest if len(rest) == 1 else None
    if head in ("and", "or"):
        return rest if len(rest) == 2 else None
    if head in ("some", "every"):
        return rest[1:] if len(rest) == 2 and slow_step(rest[0]) else None
    if head in BINDERS:
        return rest[1:] if len(rest) == 2 and slow_name(rest[0]) else None
    if head == "show":
        return rest[1:] if len(rest) == 3 and slow_hands(rest[0]) else None
    return None


def slow_walk(thing, chain=(), rows=None):
    """All things of a sentence by their numbers, as (thing, chain): what is round it, outermost first,
    as tuples (number, thing, which part of it goes on). None of what doesn't look like a sentence."""
    rows = [] if rows is None else rows
    parts = slow_parts(thing)
    if parts is None:
        return None
    number = len(rows)
    rows.append((thing, chain))
    for place, part in enumerate(parts):
        if slow_walk(part, chain + ((number, thing, place),), rows) is None:
            return None
    return rows


def slow_sentence(thing):
    rows = slow_walk(thing)
    if rows is None or len(rows) > 60:
        return False
    return all(slow_may_stand(thing, [outer for number, outer, place in chain]) for thing, chain in rows)


def slow_may_stand(thing, outer):
    binders = [inner[1] for inner in outer + [thing] if inner[0] in BINDERS]
    shows = [inner for inner in outer + [thing] if inner[0] == "show"]
    if len(binders) != len(set(binders)) or len(binders) > 4 or len(shows) > 3:
        return False
    if thing[0] != "wish":
        return True
    own = [place for place, inner in enumerate(outer) if inner[0] in BINDERS and inner[1] == thing[1]]
    heads = [inner[0] for inner in outer[own[-1] + 1:]] if own else []
    return bool(own) and heads.count("not") % 2 == 0 and "show" not in heads


def random_world(chance, many):
    """A world of so many points, with facts and hands of some names."""
    points = range(many)
    facts = tuple((name, tuple(point for point in points if chance.random() < 0.5))
                  for name in ("a", "b", "c") if chance.random() < 0.8)
    moves = tuple(tuple(point for point in points if chance.random() < 0.3) for start in points)
    sights = tuple((hand, random_parts(chance, many)) for hand in ("ann", "bob", "cid") if chance.random() < 0.8)
    return (facts, moves, sights)


def random_parts(chance, many):
    parts = {}
    for point in range(many):
        parts.setdefault(chance.randrange(1 + many // 2), []).append(point)
    return tuple(sorted(tuple(part) for part in parts.values()))


def slow_points(thing, many):
    return (isinstance(thing, tuple) and all(type(point) is int and 0 <= point < many for point in thing)
            and sorted(set(thing)) == list(thing))


def slow_world(thing):
    if not isinstance(thing, tuple) or len(thing) != 3 or not all(isinstance(part, tuple) for part in thing):
        return False
    facts, moves, sights = thing
    if not moves or not all(slow_points(points, len(moves)) for points in moves):
        return False
    for pairs in (facts, sights):
        if not all(isinstance(pair, tuple) and len(pair) == 2 and slow_name(pair[0]) for pair in pairs):
            return False
        if sorted({pair[0] for pair in pairs}) != [pair[0] for pair in pairs]:
            return False
    return (all(slow_points(points, len(moves)) for name, points in facts)
            and all(slow_partition(parts, len(moves)) for hand, parts in sights))


def slow_partition(parts, many):
    if not isinstance(parts, tuple) or not all(slow_points(part, many) and part for part in parts):
        return False
    return (all(sum(part.count(point) for part in parts) == 1 for point in range(many))
            and sorted(parts) == list(parts))


def slow_seen(world, room, hand, one, other):
    """Whether a hand can't tell two points apart, in a room of pairs (hands, points where the s holds)."""
    parts = dict(world[2]).get(hand, tuple((point,) for point in range(len(world[1]))))
    if not any(one in part and other in part for part in parts):
        return False
    return all((one in cutting) == (other in cutting) for hands, cutting in room if hand in hands)


def slow_led(world, room, step, point):
    """The points to which a step leads, in a room."""
    points = range(len(world[1]))
    if step[0] == "on":
        return {other for other in points if other in world[1][point]}
    if step[0] == "back":
        return {other for other in points if point in world[1][other]}
    many = any if step[0] == "one" else all
    return {other for other in points if many(slow_seen(world, room, hand, point, other) for hand in step[1])}


def slow_holds(world, sentence, room=(), wishes=None, sets=None):
    """The set of points where a sentence holds, by the document's words; sets: all sets that may be the ones
    of a binder, else it is come to step by step."""
    wishes = wishes or {}
    points = frozenset(range(len(world[1])))
    head = sentence[0]

    def inner(part, more=(), wished=wishes):
        return slow_holds(world, part, room + more, wished, sets)
    if head == "fact":
        return frozenset(dict(world[0]).get(sentence[1], ()))
    if head == "wish":
        return wishes[sentence[1]]
    if head == "not":
        return points - inner(sentence[1])
    if head == "and":
        return inner(sentence[1]) & inner(sentence[2])
    if head == "or":
        return inner(sentence[1]) | inner(sentence[2])
    if head in ("some", "every"):
        held, many = inner(sentence[2]), any if head == "some" else all
        return frozenset(point for point in points
                         if many(other in held for other in slow_led(world, room, sentence[1], point)))
    if head == "show":
        return inner(sentence[3], ((sentence[1], inner(sentence[2])),))
    if sets is not None:
        fixed = [one for one in sets if inner(sentence[2], (), {**wishes, sentence[1]: one}) == one]
        return min(fixed, key=len) if head == "least" else max(fixed, key=len)
    found, wished = None, frozenset() if head == "least" else points
    while found != wished:
        wished = wished if found is None else found
        found = inner(sentence[2], (), {**wishes, sentence[1]: wished})
    return found


def all_sets(many):
    """All sets of so many points."""
    return [frozenset(point for point in range(many) if mask >> point & 1) for mask in range(2 ** many)]


def spoiled_words(chance, text, news):
    """A text with one word put in, out, doubled, exchanged, or the text cut short."""
    words = text.split(" ")
    place = chance.randrange(len(words))
    way = chance.randrange(7)
    if way == 0:
        words.insert(place, chance.choice(news))
    elif way == 1:
        words.pop(place)
    elif way == 2:
        words.insert(place, words[place])
    elif way == 3:
        other = chance.randrange(len(words))
        words[place], words[other] = words[other], words[place]
    elif way == 4:
        words[place] = chance.choice(news)
    elif way == 5:
        words = words[:place]
    else:
        words.insert(chance.choice((0, place, len(words))), "")
    return " ".join(words)


SENTENCE_FORMS = {"fact": "n", "wish": "w", "not": "s", "and": "ss", "or": "ss", "some": "ts", "every": "ts",
                  "least": "bs", "most": "bs", "show": "hss"}
PLAIN_FORMS = {"fact": "n", "not": "s", "and": "ss", "or": "ss", "knows": "ns", "may": "ns", "whether": "ns",
               "all": "hs", "common": "hs", "pool": "hs", "tell": "hss", "told": "hss", "then": "s", "must": "s",
               "before": "s", "sometime": "s", "always": "s", "surely": "s", "spared": "s", "until": "ss",
               "till": "ss", "once": "s", "ever": "s", "since": "ss"}


def slow_reading(text, forms, most):
    """The number of the first word that can't stand there, None where the text writes a sentence: what is
    awaited is kept as a list of (sort, around), around the words of the heads and names round it."""
    awaited, many = [("s", ())], 0
    words = text.split(" ")
    for number, word in enumerate(words):
        if not awaited:
            return number
        sort, around = awaited.pop()
        if sort == "s":
            many += 1
            heads = [entry[0] for entry in around]
            if word not in forms or many > most:
                return number
            if word in BINDERS and heads.count("least") + heads.count("most") > 3:
                return number
            if word == "show" and heads.count("show") > 2:
                return number
            # The head's entry gets its name later, where it has one.
            entry = [word, None]
            for wanted in reversed(forms[word]):
                awaited.append((wanted, around + (entry,)))
        elif sort == "t":
            if word not in ("on", "back", "one", "pool"):
                return number
            if word in ("one", "pool"):
                awaited.append(("h", around))
        elif sort == "h":
            if not slow_hands(tuple(word.split(","))):
                return number
        else:
            outer = [(entry[0], entry[1]) for entry in around[:-1]]
            if not slow_name(word):
                return number
            if sort == "b" and word in [name for head, name in outer if head in BINDERS]:
                return number
            if sort == "w" and not slow_may_stand(("wish", word), outer):
                return number
            around[-1][1] = word
    return len(words) if awaited else None


def random_plain(chance, size):
    """A plain sentence of at most so many things."""
    heads = [head for head, sorts in PLAIN_FORMS.items() if sorts.count("s") == 1 and size > 1]
    heads += [head for head, sorts in PLAIN_FORMS.items() if sorts.count("s") == 2 and size > 2]
    head = chance.choice(heads) if heads else "fact"
    if head == "fact":
        return (head, chance.choice("abc"))
    taken = {"n": (chance.choice(("ann", "bob", "cid")),), "h": (chance.choice(HANDS),)}.get(PLAIN_FORMS[head][0], ())
    if PLAIN_FORMS[head].count("s") == 1:
        return (head,) + taken + (random_plain(chance, size - 1),)
    first = chance.randint(1, size - 2)
    return (head,) + taken + (random_plain(chance, first), random_plain(chance, size - 1 - first))


# The core of each word, as the document tells it: H what it takes, S and T its parts, X its binder's name.
CORES = {
    "not": "not S", "and": "and S T", "or": "or S T",
    "knows": "every one H S", "may": "some one H S", "whether": "or every one H S every one H not S",
    "all": "every one H S", "common": "most X and S every one H wish X", "pool": "every pool H S",
    "tell": "and S show H S T", "told": "or not S show H S T",
    "then": "some on S", "must": "every on S", "before": "some back S",
    "sometime": "least X or S some on wish X", "always": "most X and S every on wish X",
    "surely": "least X or S and some on wish X every on wish X",
    "spared": "most X and S or every on wish X some on wish X",
    "until": "least X or T and S some on wish X",
    "till": "least X or T and S and some on wish X every on wish X",
    "once": "least X or S some back wish X", "ever": "most X and S every back wish X",
    "since": "least X or T and S some back wish X",
}


def slow_core(plain, around=0):
    """The text of a plain sentence's core, which stands within so many binders; None of a fifth one."""
    if plain[0] == "fact":
        return "fact " + plain[1]
    core = CORES[plain[0]]
    name, taken = None, plain[1]
    if "X" in core:
        if around == 4:
            return None
        name, around = "abcd"[around], around + 1
    parts = [slow_core(part, around) for part in plain[1:] if isinstance(part, tuple) and isinstance(part[-1], (str, tuple))
             and part[0] in PLAIN_FORMS and not slow_hands(part)]
    if None in parts:
        return None
    words = {"X": name, "H": ",".join(taken) if slow_hands(taken) else taken, "S": parts[0], "T": parts[-1]}
    return " ".join(words.get(word, word) for word in core.split(" "))


def ways_of(world, point, back=False):
    """All ways from a point, each followed till it ends or comes to a point again."""
    moves = [[other for other in range(len(world[1])) if start in world[1][other]] if back else world[1][start]
             for start in range(len(world[1]))]
    ended, going = [], [(point,)]
    while going:
        way = going.pop()
        if way[-1] in way[:-1] or not moves[way[-1]]:
            ended.append(way)
        else:
            going.extend(way + (other,) for other in moves[way[-1]])
    return ended


def winding_world(chance, many):
    """A world in which one goes far: few moves, few facts."""
    moves = []
    for point in range(many):
        led = {(point + 1) % many} if chance.random() < 0.9 else set()
        if chance.random() < 0.4:
            led.add(chance.randrange(many))
        moves.append(tuple(sorted(led)))
    facts = tuple((name, tuple(sorted(chance.sample(range(many), chance.randint(1, 1 + many // 3))))) for name in "ab")
    sights = tuple((hand, random_parts(chance, many)) for hand in ("ann", "bob"))
    return (facts, tuple(moves), sights)


def winding_sentence(chance):
    """One to four binders round one another, whose wishes are come to by steps."""
    names = "pqrs"[:chance.randint(1, 4)]
    body = winding_body(chance, names, chance.randint(2, 5))
    for name in reversed(names):
        body = (chance.choice(BINDERS), name, body)
        if chance.random() < 0.3:
            body = (chance.choice(("and", "or")), ("fact", chance.choice("ab")), body)
    return body


def winding_body(chance, names, size):
    if size > 1:
        first = chance.randint(1, size - 1)
        return (chance.choice(("and", "or", "or")), winding_body(chance, names, first), winding_body(chance, names, size - first))
    leaf = chance.choice([("fact", name) for name in "ab"] + [("wish", name) for name in names] * 2)
    if leaf[0] == "wish":
        step = chance.choice((("on",), ("on",), ("on",), ("back",), ("one", ("ann",))))
        leaf = (chance.choice(("some", "every")), step, leaf)
        if chance.random() < 0.3:
            leaf = ("not", (chance.choice(("and", "or")), ("fact", "b"), ("not", leaf)))
    return leaf


def doubled_world(chance, many):
    """A world with some of its points doubled, so that alike ones are there, and shuffled."""
    world = winding_world(chance, many)
    origin = list(range(many)) + [chance.randrange(many) for more in range(chance.randint(1, many))]
    chance.shuffle(origin)
    points = range(len(origin))
    facts = tuple((name, tuple(p for p in points if origin[p] in held)) for name, held in world[0])
    moves = tuple(tuple(q for q in points if origin[q] in world[1][origin[p]]) for p in points)
    sights = []
    for hand, parts in world[2]:
        told = [tuple(p for p in points if origin[p] in part) for part in parts]
        sights.append((hand, tuple(sorted(told))))
    return (facts, moves, tuple(sights))


def without_pool(thing):
    """A sentence with a one in the place of each pool."""
    if thing and thing[0] == "pool":
        return ("one",) + thing[1:]
    return tuple(without_pool(part) if isinstance(part, tuple) else part for part in thing)
