"""Reckonings: point [61]."""

import random
import unittest
from copy import deepcopy

from samples import JUNK, nested, places_in, replaced
from worldsay.reckonings import is_reckoning, reckoned

ONE = ("num", 1)
BOXES = ("n", "m")
PAIRS = ("add", "sub", "times", "less", "same")


def random_reckoning(chance, size, boxes=BOXES):
    """A reckoning of at most so many in all."""
    if size < 3:
        return chance.choice([("num", chance.choice((0, 1, 2, -1, -3, 7, 999, -999)))] + [("box", name) for name in boxes])
    if size > 3 and chance.random() < 0.3:
        one = chance.randint(1, size - 3)
        two = chance.randint(1, size - 2 - one)
        return ("pick", random_reckoning(chance, one, boxes), random_reckoning(chance, two, boxes),
                random_reckoning(chance, size - 1 - one - two, boxes))
    first = chance.randint(1, size - 2)
    return (chance.choice(PAIRS), random_reckoning(chance, first, boxes), random_reckoning(chance, size - 1 - first, boxes))


def slow_size(thing, boxes):
    """How many reckonings a thing has, 1000 or more of a thing that is none."""
    if type(thing) is not tuple or not thing or type(thing[0]) is not str:
        return 1000
    head, rest = thing[0], thing[1:]
    if head == "num":
        return 1 if len(rest) == 1 and type(rest[0]) is int and -999 <= rest[0] <= 999 else 1000
    if head == "box":
        return 1 if len(rest) == 1 and type(rest[0]) is str and rest[0] in boxes else 1000
    if (head in PAIRS and len(rest) == 2) or (head == "pick" and len(rest) == 3):
        return 1 + sum(slow_size(part, boxes) for part in rest)
    return 1000


def slow_reckoned(thing, values):
    if thing[0] == "num":
        return thing[1]
    if thing[0] == "box":
        return values[thing[1]]
    told = [slow_reckoned(part, values) for part in thing[1:]]
    return {"add": lambda: told[0] + told[1], "sub": lambda: told[0] - told[1], "times": lambda: told[0] * told[1],
            "less": lambda: int(told[0] < told[1]), "same": lambda: int(told[0] == told[1]),
            "pick": lambda: told[1] if told[0] else told[2]}[thing[0]]()


class ReckoningTest(unittest.TestCase):
    def test_each_kind(self):
        for thing in (("num", 0), ("num", 999), ("num", -999), ("box", "n"), ("box", "m"), ("pick", ONE, ONE, ("box", "n"))):
            self.assertIs(is_reckoning(thing, BOXES), True)
        for head in PAIRS:
            self.assertIs(is_reckoning((head, ONE, ("box", "m")), BOXES), True)
            for thing in ((head,), (head, ONE), (head, ONE, ONE, ONE), (head, 1, 1), (head, ONE, list(ONE)), [head, ONE, ONE],
                          (head, ONE, ("box", "z")), (head, ONE, ("num", 1000)), (head.upper(), ONE, ONE)):
                self.assertIs(is_reckoning(thing, BOXES), False)

    def test_things_that_are_none(self):
        for thing in JUNK + (("num",), ("num", 1000), ("num", -1000), ("num", True), ("num", False), ("num", "1"), ("num", None),
                             ("num", (1,)), ("num", 1, 1), ("num", 10 ** 99), ["num", 1], ("box",), ("box", "z"), ("box", "N"),
                             ("box", ""), ("box", 0), ("box", None), ("box", ["n"]), ("box", ("n",)), ("box", "n", "m"),
                             ("box", ("n", "m")), ("pick", ONE, ONE), ("pick", ONE, ONE, ONE, ONE), ("div", ONE, ONE), 1, "num",
                             {"num": 1}, (["num"], 1), ({}, 1), (("num",), 1), (True, 1), ("num", {}), ("box", {}), (ONE,)):
            with self.subTest(thing=thing):
                before = deepcopy(thing)
                self.assertIs(is_reckoning(thing, BOXES), False)
                self.assertEqual(repr(thing), repr(before))

    def test_boxes(self):
        self.assertIs(is_reckoning(("box", "n"), ()), False)
        self.assertIs(is_reckoning(("num", 1), ()), True)
        self.assertIs(is_reckoning(("box", "nn"), ("n",)), False)

    def test_twenty(self):
        for many in (1, 3, 17, 19, 21, 23):
            self.assertIs(is_reckoning(nested(lambda r: ("add", r, ONE), ONE, many // 2), BOXES), many <= 20)
            self.assertIs(is_reckoning(nested(lambda r: ("add", ONE, r), ONE, many // 2), BOXES), many <= 20)
        pick = ("pick", ONE, ONE, ONE)
        twenty = nested(lambda r: ("add", r, ONE), pick, 8)
        self.assertIs(is_reckoning(twenty, BOXES), True)
        self.assertIs(is_reckoning(("pick", nested(lambda r: ("add", r, ONE), ONE, 8), ONE, ONE), BOXES), True)
        self.assertIs(is_reckoning(nested(lambda r: ("add", r, ONE), pick, 9), BOXES), False)
        self.assertIs(is_reckoning(nested(lambda r: ("times", r, r), ONE, 90), BOXES), False)
        self.assertIs(is_reckoning(nested(lambda r: ("times", r, r), ONE, 3), BOXES), True)
        self.assertIs(is_reckoning(nested(lambda r: ("times", r, r), ONE, 4), BOXES), False)

    def test_random_things(self):
        chance = random.Random(85)
        news = JUNK + (ONE, 1, -1, 1000, "n", "num", ("box", "z"), ("box", "m"), True)
        found = {True: 0, False: 0}
        for count in range(3000):
            thing = random_reckoning(chance, chance.choice((1, 4, 9, 20, 23)))
            if chance.random() < 0.6:
                thing = replaced(thing, chance.choice(places_in(thing)), chance.choice(news))
            wanted = slow_size(thing, BOXES) <= 20
            found[wanted] += 1
            self.assertIs(is_reckoning(thing, BOXES), wanted, thing)
        self.assertGreater(min(found.values()), 400)


class ReckonedTest(unittest.TestCase):
    def test_each_kind(self):
        values = {"n": 5, "m": -7}
        n, m = ("box", "n"), ("box", "m")
        for reckoning, number in ((("num", -999), -999), (n, 5), (m, -7), (("add", n, m), -2), (("sub", n, m), 12), (("sub", m, n), -12),
                                  (("times", n, m), -35), (("less", m, n), 1), (("less", n, m), 0), (("less", n, n), 0),
                                  (("same", n, n), 1), (("same", n, m), 0), (("pick", n, m, ("num", 3)), -7),
                                  (("pick", ("num", 0), m, ("num", 3)), 3), (("pick", m, n, m), 5)):
            with self.subTest(reckoning=reckoning):
                self.assertEqual(reckoned(reckoning, values), number)
                self.assertIs(type(reckoned(reckoning, values)), int)
        self.assertEqual(values, {"n": 5, "m": -7})

    def test_never_cut(self):
        great = nested(lambda r: ("times", r, ("num", 999)), ("num", 999), 9)
        self.assertEqual(reckoned(great, {}), 999 ** 10)
        self.assertEqual(reckoned(("sub", ("num", -999), ("num", 999)), {}), -1998)
        self.assertEqual(reckoned(("times", ("box", "n"), ("box", "n")), {"n": 10 ** 30}), 10 ** 60)

    def test_random_reckonings(self):
        chance = random.Random(86)
        for count in range(1500):
            reckoning = random_reckoning(chance, chance.randint(1, 20))
            values = {"n": chance.randint(-9, 9), "m": chance.choice((0, 1, -1, 999))}
            self.assertEqual(reckoned(reckoning, values), slow_reckoned(reckoning, values))


if __name__ == "__main__":
    unittest.main()
