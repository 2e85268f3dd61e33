"""Slow readings of what the document says of claims, papers and ranks, and papers for the tests."""

from samples import BINDERS, slow_holds, slow_led, slow_seen, slow_walk


class Slow:
    """A sentence's things over a world: what is round each of them, and what is right."""

    def __init__(self, world, sentence):
        self.world = world
        self.points = range(len(world[1]))
        self.walk = slow_walk(sentence)
        self.things = [thing for thing, chain in self.walk]
        self.parts = [[] for thing in self.things]
        for number, (thing, chain) in enumerate(self.walk):
            if chain:
                self.parts[chain[-1][0]].append(number)
        self.binders = [[outer for outer, around, place in chain if around[0] in BINDERS] for thing, chain in self.walk]
        self.rooms = [[outer for outer, around, place in chain if around[0] == "show" and place == 1]
                      for thing, chain in self.walk]

    def sign(self, binder, number, truth):
        nots = [outer for outer, around, place in self.walk[number][1] if outer > binder and around[0] == "not"]
        return truth if len(nots) % 2 == 0 else not truth

    def hard(self, number, truth):
        return tuple((self.things[binder][0], self.sign(binder, number, truth)) in (("least", True), ("most", False))
                     for binder in self.binders[number])

    def own_binder(self, number):
        return [binder for binder in self.binders[number] if self.things[binder][1] == self.things[number][1]][-1]

    def right(self):
        """For each thing the set of points where it holds in its room, wishes as their binders hold."""
        told = []
        for number, (thing, chain) in enumerate(self.walk):
            room, wishes = (), {}
            for outer, around, place in chain:
                if around[0] == "show" and place == 1:
                    room += ((around[1], slow_holds(self.world, around[2], room)),)
                if around[0] in BINDERS:
                    wishes = {**wishes, around[1]: slow_holds(self.world, around, room, wishes)}
            told.append(slow_holds(self.world, thing, room, wishes))
        return told

    def right_claims(self):
        return [(number, point, point in held) for number, held in enumerate(self.right()) for point in self.points]

    def hand_shows(self, number, hand):
        return [self.parts[show][0] for show in self.rooms[number] if hand in self.things[show][1]]

    def apart(self, claims, number, step, p, q):
        if step[0] in ("on", "back") or p == q:
            return False
        hands = [hand for hand in step[1] if slow_seen(self.world, (), hand, p, q)]
        told = [any((s, p, truth) in claims and (s, q, not truth) in claims for truth in (True, False)
                    for s in self.hand_shows(number, hand)) for hand in hands]
        return all(told) if step[0] == "one" else any(told)

    def joined(self, claims, number, step, p, q):
        if step[0] in ("on", "back") or p == q:
            return True
        hands = [hand for hand in step[1] if slow_seen(self.world, (), hand, p, q)]
        told = [all(any((s, p, truth) in claims and (s, q, truth) in claims for truth in (True, False))
                    for s in self.hand_shows(number, hand)) for hand in hands]
        return any(told) if step[0] == "one" else all(told)

    def leans(self, claims, row):
        """What a row leans on, by the claims of its paper; None of a bad one."""
        number, point, truth, ranks, choice = row
        thing, parts = self.things[number], self.parts[number]
        head = thing[0]
        choosing = (head, truth) in (("and", False), ("or", True), ("every", False), ("some", True))
        if not choosing and choice is not None:
            return None
        if head == "fact":
            return [] if truth == (point in dict(self.world[0]).get(thing[1], ())) else None
        if head == "not":
            return [(parts[0], point, not truth)]
        if head == "show":
            return [(parts[1], point, truth)]
        if head in BINDERS:
            return [(parts[0], point, truth)]
        if head == "wish":
            return [(self.parts[self.own_binder(number)][0], point, truth)]
        if head in ("and", "or"):
            if choosing:
                return [(choice, point, truth)] if choice in parts else None
            return sorted((part, point, truth) for part in parts)
        led = slow_led(self.world, (), thing[1], point)
        if choosing:
            good = choice in led and self.joined(claims, number, thing[1], point, choice)
            return [(parts[0], choice, truth)] if good else None
        return sorted((parts[0], other, truth) for other in led if not self.apart(claims, number, thing[1], point, other))

    def choices(self, claim):
        """All choices that a row of a claim might have."""
        number, point, truth = claim
        head = self.things[number][0]
        if (head, truth) in (("and", False), ("or", True)):
            return self.parts[number]
        if (head, truth) in (("every", False), ("some", True)):
            return list(self.points)
        return [None]

    def is_row(self, thing):
        if type(thing) is not tuple or len(thing) != 5:
            return False
        number, point, truth, ranks, choice = thing
        if type(number) is not int or type(point) is not int or type(truth) is not bool or type(ranks) is not tuple:
            return False
        if number not in range(len(self.things)) or point not in self.points or len(ranks) != len(self.binders[number]):
            return False
        for rank, hard in zip(ranks, self.hard(number, truth)):
            if type(rank) is not int or rank < 0 or len(str(rank)) > 60 or (rank and not hard):
                return False
        return choice is None or (type(choice) is int and len(str(abs(choice))) <= 60)

    def ranks_fit(self, row, leaned):
        number, point, truth, ranks, choice = row
        if self.things[number][0] == "wish":
            place = self.binders[number].index(self.own_binder(number))
            if self.hard(number, truth)[place]:
                return leaned < ranks[:place + 1]
            return leaned <= ranks[:place + 1]
        return leaned[:len(ranks)] <= ranks

    def as_told(self, rows, row):
        """Whether a row is as told by the rows of a paper, a dict by their claims."""
        leaned = self.leans(rows, row)
        return leaned is not None and all(claim in rows and self.ranks_fit(row, rows[claim][3]) for claim in leaned)

    def fault(self, things):
        rows = {}
        for place, thing in enumerate(things):
            if not self.is_row(thing) or thing[:3] in rows:
                return place
            rows[thing[:3]] = thing
        for place, row in enumerate(things):
            if not self.as_told(rows, row):
                return place
        return None

    def lets(self, point, truth, thing):
        if type(thing) is not tuple or self.fault(thing) is not None:
            return False
        return any(row[:3] == (0, point, truth) for row in thing)

    def options(self, claims, claim):
        """For each choice of a right claim what its row leans on, where that is right, too."""
        told = []
        for choice in self.choices(claim):
            leaned = self.leans(claims, claim + ((), choice))
            if leaned is not None and all(other in claims for other in leaned):
                told.append((choice, leaned))
        return told

    def all_options(self):
        """For each right claim its options."""
        claims = {claim: True for claim in self.right_claims()}
        return {claim: self.options(claims, claim) for claim in claims}

    def ranks(self, options=None):
        """The least ranks of all right claims, raised round by round as the document tells; None where these
        options, fewer than there are, let a claim have none."""
        options = options or self.all_options()
        ranks = {claim: (0,) * len(self.binders[claim[0]]) for claim in options}
        changed = True
        while changed:
            changed = False
            for claim in ranks:
                least = min(self.let_have(claim, leaned, ranks) for choice, leaned in options[claim])
                if least > ranks[claim]:
                    ranks[claim], changed = least, True
                    if max(least) == 10 ** 9:
                        return None
        return ranks

    def other_paper(self, chance):
        """A paper of all right claims as another one may write it: with other choices, where they do, and ranks."""
        options = self.all_options()
        for tries in range(20):
            some = {claim: [chance.choice(pairs)] if chance.random() < 0.8 or tries < 10 else pairs
                    for claim, pairs in options.items()}
            ranks = self.ranks(some)
            if ranks is not None:
                break
        else:
            some, ranks = options, self.ranks(options)
        rows = []
        for claim in ranks:
            choice = min(some[claim], key=lambda option: self.let_have(claim, option[1], ranks))[0]
            rows.append(claim + (ranks[claim], choice))
        rows = list(greater_ranks(self, rows, chance.choice((1, 1, 3, 1000)), chance.choice((0, 0, 5, 10 ** 6))))
        chance.shuffle(rows)
        return tuple(rows)

    def let_have(self, claim, leaned, ranks):
        """The least ranks that what a row leans on lets it have; a great one where none."""
        number, point, truth = claim
        many = len(self.binders[number])
        if self.things[number][0] != "wish":
            return max([ranks[other][:many] for other in leaned], default=(0,) * many)
        place = self.binders[number].index(self.own_binder(number))
        hard = self.hard(number, truth)
        told = list(ranks[leaned[0]])
        while hard[place]:
            told[place] += 1
            if told[place] <= len(self.points):
                break
            told[place:] = [0] * (len(told) - place)
            place = max([outer for outer in range(place) if hard[outer]], default=-1)
            if place < 0:
                return (10 ** 9,) * many
        return tuple(told) + (0,) * (many - len(told))

    def paper(self, ranks=None):
        """A paper of all right claims, with these or the least ranks."""
        least = self.ranks()
        ranks = ranks or least
        claims = {claim: True for claim in ranks}
        rows = []
        for claim in ranks:
            options = self.options(claims, claim)
            choice = min(options, key=lambda option: self.let_have(claim, option[1], least))[0]
            rows.append(claim + (ranks[claim], choice))
        return tuple(rows)


def greater_ranks(slow, rows, factor, more):
    """A paper with each hard rank made greater, all alike."""
    told = []
    for number, point, truth, ranks, choice in rows:
        ranks = tuple(rank * factor + more if hard else 0 for rank, hard in zip(ranks, slow.hard(number, truth)))
        told.append((number, point, truth, ranks, choice))
    return tuple(told)


def part_of_paper(slow, rows, first):
    """The rows of a paper that are come to from one claim."""
    rows = {row[:3]: row for row in rows}
    seen, waiting = {}, [first]
    while waiting:
        claim = waiting.pop()
        if claim in seen or claim not in rows:
            continue
        seen[claim] = rows[claim]
        waiting.extend(slow.leans(rows, rows[claim]) or [])
        waiting.extend(come_to_beside(slow, claim))
    return tuple(seen.values())


def come_to_beside(slow, claim):
    """Of some and every: the claims of the s of the shows of its room that it comes to."""
    number, point, truth = claim
    thing = slow.things[number]
    if thing[0] not in ("some", "every"):
        return []
    points = [point, *slow_led(slow.world, (), thing[1], point)]
    return [(slow.parts[show][0], other, told) for show in slow.rooms[number] for other in points for told in (True, False)]
