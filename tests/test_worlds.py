"""Worlds: points [3] (worlds, steps), [10] (is_world) and [11]."""

import random
import unittest
from copy import deepcopy

from samples import JUNK, places_in, random_world, replaced, slow_world
from worldsay.worlds import is_world, led, many_points, part_of, points_of

FACTS = (("dry", ()), ("wet", (0, 2)))
MOVES = ((0, 1), (), (1, 3), (0,))
SIGHTS = (("ann", ((0, 3), (1, 2))), ("bob", ((0,), (1, 2, 3))), ("cid", ((0, 1, 2, 3),)))
WORLD = (FACTS, MOVES, SIGHTS)

# The parts of a hand, each with what is wrong of it in a world of four points.
BAD_PARTS = {
    "no parts": (), "an empty part": ((), (0, 1, 2, 3)), "an empty part last": ((0, 1, 2, 3), ()),
    "a point lacks": ((0, 1), (3,)), "the last point lacks": ((0, 1, 2),), "the first point lacks": ((1, 2, 3),),
    "a point twice": ((0, 1), (1, 2, 3)), "a point twice in its part": ((0, 0), (1, 2, 3)),
    "a part twice": ((0, 1), (0, 1), (2, 3)), "one twice, one lacks": ((0, 1), (1, 3)),
    "parts that fall": ((1, 2, 3), (0,)), "the last parts fall": ((0,), (2, 3), (1,)),
    "points that fall": ((1, 0), (2, 3)), "a point beyond": ((0, 1), (2, 3, 4)), "a point below": ((-1, 0, 1), (2, 3)),
    "a list for the parts": [(0, 1), (2, 3)], "a list for a part": ((0, 1), [2, 3]), "lists alone": ([0, 1], [2, 3]),
    "a truth": ((False, 1), (2, 3)), "a truth for one": ((0, True), (2, 3)), "a text": (("0", 1), (2, 3)),
    "points without parts": (0, 1, 2, 3), "a dict": {}, "None": None, "None for a part": ((0, 1, 2, 3), None),
    "parts within parts": (((0, 1),), ((2, 3),)), "None among points": ((0, 1, None), (2, 3)),
}

# Points, each with what is wrong of them in a world of four points.
BAD_POINTS = {
    "falling": (1, 0), "twice": (1, 1), "twice, apart": (0, 1, 0), "beyond": (0, 4), "far beyond": (10 ** 99,),
    "below nought": (-1,), "below nought first": (-1, 0), "a truth": (True,), "truths": (False, True),
    "a truth behind": (0, True), "a list": [0, 1], "an empty list": [], "a dict": {}, "a text": ("0",), "None": None,
    "None among": (0, None), "a number": 0, "a tuple among": ((0,),), "a list among": (0, [1]), "a text alone": "01",
}


class IsWorldTest(unittest.TestCase):
    def check(self, thing, told, words=None):
        with self.subTest(words=words, thing=thing):
            self.assertIs(is_world(thing), told)

    def test_worlds(self):
        for thing in (WORLD, ((), MOVES, ()), (FACTS, MOVES, ()), ((), MOVES, SIGHTS), ((), ((),), ()), ((), ((0,),), ()),
                      ((("a", (0,)),), ((),), (("a", ((0,),)),)), ((("a", ()),), ((),), ()),
                      ((), ((), ()), (("ann", ((0,), (1,))),)), ((), ((0, 1), (0, 1)), (("ann", ((0, 1),)),)),
                      ((), ((), (), ()), (("ann", ((0, 2), (1,))),))):
            self.check(thing, True)

    def test_worlds_of_whatever_number_of_points(self):
        for many in (1, 2, 23, 24, 25, 60, 200, 5000):
            points = tuple(range(many))
            moves = tuple((min(point + 1, many - 1),) for point in points)
            sights = (("all", (points,)), ("none", tuple((point,) for point in points)))
            self.check(((("a", points),), moves, sights), True, many)
            self.check(((("a", points + (many,)),), moves, sights), False, many)
            self.check(((("a", points),), moves[:-1] + ((many,),), sights), False, many)
            self.check(((("a", points),), moves, (("all", (points[1:],)),)), False, many)

    def test_things_of_other_kinds_and_sizes(self):
        for thing in JUNK:
            self.check(thing, False)
        for thing in (WORLD[:2], WORLD + ((),), list(WORLD), [FACTS, MOVES, SIGHTS], (MOVES, FACTS, SIGHTS),
                      {0: FACTS, 1: MOVES, 2: SIGHTS}, (WORLD,), MOVES):
            self.check(thing, False)

    def test_no_points(self):
        for thing in (((), (), ()), ((("a", ()),), (), ()), ((), (), (("ann", ()),)), ((), [], ()), ((), None, ())):
            self.check(thing, False)

    def test_lists_and_dicts_for_tuples(self):
        for place in range(3):
            for wrong in (list(WORLD[place]), dict(enumerate(WORLD[place])), None, True, 0, "abc"):
                self.check(replaced(WORLD, (place,), wrong), False)
        for place in (0, 2):
            self.check(replaced(WORLD, (place,), []), False)
            self.check(replaced(WORLD, (place,), {}), False)
            self.check(replaced(WORLD, (place, 1), list(WORLD[place][1])), False)

    def test_bad_moves(self):
        for words, points in BAD_POINTS.items():
            for place in range(4):
                self.check(replaced(WORLD, (1, place), points), False, words)

    def test_bad_facts(self):
        for words, points in BAD_POINTS.items():
            for place in range(2):
                self.check(replaced(WORLD, (0, place, 1), points), False, words)

    def test_bad_parts(self):
        for words, parts in BAD_PARTS.items():
            for place in range(3):
                self.check(replaced(WORLD, (2, place, 1), parts), False, words)

    def test_names_that_are_none(self):
        for place in (0, 2):
            for name in ("", "A", "abcdefghi", "a1", "a b", "a%", None, 1, True, ("a",), ["a"], {}):
                self.check(replaced(WORLD, (place, 0, 0), name), False)

    def test_names_that_do_not_rise(self):
        for place in (0, 2):
            for pairs in ((WORLD[place][1], WORLD[place][0]), (WORLD[place][0],) * 2, WORLD[place] + (WORLD[place][0],)):
                self.check(replaced(WORLD, (place,), pairs), False)

    def test_pairs_that_are_none(self):
        for place in (0, 2):
            for pair in ((), ("a",), ("a", (), ()), WORLD[place][0] + ((),), "ab", None, 0, {"a": ()}, ((), "a")):
                self.check(replaced(WORLD, (place, 0), pair), False)

    def test_names_of_unlike_sorts_may_be_alike(self):
        self.check(((("ann", (0,)),), MOVES, (("ann", ((0, 1, 2, 3),)),)), True)

    def test_one_thing_of_a_world_replaced(self):
        chance = random.Random(3)
        found = {True: 0, False: 0}
        for count in range(5000):
            world = random_world(chance, chance.randint(1, 5))
            self.check(world, True)
            new = chance.choice(JUNK + (2, 3, 4, "a", "ann", "zoe", (0,), (1,), (0, 1), ((0,),), ((0, 1),), ("a", (0,))))
            thing = replaced(world, chance.choice(places_in(world)), new)
            found[slow_world(thing)] += 1
            self.check(thing, slow_world(thing))
        self.assertGreater(min(found.values()), 100)

    def test_nothing_handed_in_is_changed(self):
        for thing in (list(WORLD), (list(FACTS), [[0], [1]], {}), [[], [[]], []], WORLD):
            before = deepcopy(thing)
            is_world(thing)
            self.assertEqual(repr(thing), repr(before))


class AskedTest(unittest.TestCase):
    def check(self, told, wanted):
        self.assertIs(type(told), tuple)
        self.assertEqual(told, wanted)

    def test_many_points(self):
        self.assertEqual(many_points(WORLD), 4)
        self.assertEqual(many_points(((), ((),), ())), 1)
        self.assertEqual(many_points(((), ((),) * 24, ())), 24)
        self.assertEqual(many_points(((), ((),) * 100, ())), 100)

    def test_points_of(self):
        self.check(points_of(WORLD, "wet"), (0, 2))
        self.check(points_of(WORLD, "dry"), ())

    def test_points_of_a_fact_that_is_not_told(self):
        for name in ("ann", "a", "wets", "zzz"):
            self.check(points_of(WORLD, name), ())
        self.check(points_of(((), MOVES, SIGHTS), "wet"), ())

    def test_a_fact_and_a_hand_of_one_name(self):
        world = ((("ann", (1,)), ("bob", (2,))), MOVES, (("ann", ((0, 1), (2, 3))),))
        self.check(points_of(world, "ann"), (1,))
        self.check(part_of(world, "ann", 1), (0, 1))
        self.check(part_of(world, "bob", 2), (2,))

    def test_part_of(self):
        for hand, parts in SIGHTS:
            for part in parts:
                for point in part:
                    self.check(part_of(WORLD, hand, point), part)

    def test_part_of_a_hand_that_is_not_told(self):
        for point in range(4):
            self.check(part_of(WORLD, "dan", point), (point,))
            self.check(part_of(WORLD, "wet", point), (point,))
            self.check(part_of((FACTS, MOVES, ()), "ann", point), (point,))

    def test_led_on_and_back(self):
        for point, wanted in enumerate(((0, 1), (), (1, 3), (0,))):
            self.check(led(WORLD, ("on",), point), wanted)
        for point, wanted in enumerate(((0, 3), (0, 2), (), (2,))):
            self.check(led(WORLD, ("back",), point), wanted)

    def test_led_by_one(self):
        self.check(led(WORLD, ("one", ("ann",)), 0), (0, 3))
        self.check(led(WORLD, ("one", ("bob",)), 0), (0,))
        self.check(led(WORLD, ("one", ("ann", "bob")), 0), (0, 3))
        self.check(led(WORLD, ("one", ("ann", "bob")), 3), (0, 1, 2, 3))
        self.check(led(WORLD, ("one", ("ann", "bob", "cid")), 0), (0, 1, 2, 3))

    def test_led_by_pool(self):
        self.check(led(WORLD, ("pool", ("ann",)), 0), (0, 3))
        self.check(led(WORLD, ("pool", ("ann", "bob")), 0), (0,))
        self.check(led(WORLD, ("pool", ("ann", "bob")), 1), (1, 2))
        self.check(led(WORLD, ("pool", ("bob", "cid")), 1), (1, 2, 3))
        self.check(led(WORLD, ("pool", ("ann", "bob", "cid")), 3), (3,))

    def test_led_with_hands_that_are_not_told(self):
        for point in range(4):
            self.check(led(WORLD, ("one", ("dan",)), point), (point,))
            self.check(led(WORLD, ("pool", ("dan",)), point), (point,))
            self.check(led(WORLD, ("pool", ("cid", "dan")), point), (point,))
            self.check(led(WORLD, ("pool", ("aaa", "cid")), point), (point,))
            self.check(led(WORLD, ("one", ("cid", "dan")), point), (0, 1, 2, 3))
            self.check(led(WORLD, ("one", ("aaa", "bob")), point), (0,) if point == 0 else (1, 2, 3))
            self.check(led(((), MOVES, ()), ("one", ("ann", "bob")), point), (point,))

    def test_led_rises_where_parts_lie_across(self):
        world = ((), ((),) * 5, (("ann", ((0, 4), (1,), (2, 3))), ("bob", ((0, 2), (1, 3, 4)))))
        self.check(led(world, ("one", ("ann", "bob")), 4), (0, 1, 3, 4))
        self.check(led(world, ("one", ("ann", "bob")), 0), (0, 2, 4))

    def test_led_in_random_worlds(self):
        chance = random.Random(11)
        names = ("ann", "bob", "cid", "dan")
        for count in range(300):
            world = random_world(chance, chance.randint(1, 8))
            points = range(many_points(world))
            parts = dict(world[2])
            hands = tuple(name for name in names if chance.random() < 0.5) or ("bob",)
            for p in points:
                def same(hand, q):
                    return p == q or any(p in part and q in part for part in parts.get(hand, ()))
                self.check(led(world, ("on",), p), world[1][p])
                self.check(led(world, ("back",), p), tuple(q for q in points if p in world[1][q]))
                self.check(led(world, ("one", hands), p), tuple(q for q in points if any(same(h, q) for h in hands)))
                self.check(led(world, ("pool", hands), p), tuple(q for q in points if all(same(h, q) for h in hands)))
                for hand in names:
                    self.check(part_of(world, hand, p), tuple(q for q in points if same(hand, q)))

    def test_led_rises_by_the_numbers_however_far_apart(self):
        for far in (8, 16, 32, 63):
            rest = tuple(point for point in range(64) if point not in (1, far))
            world = ((), ((),) * 64, (("ann", (rest, (1, far))),))
            for hands in (("ann",), ("ann", "zoe")):
                self.check(led(world, ("one", hands), 1), (1, far))
                self.check(led(world, ("one", hands), far), (1, far))
                self.check(led(world, ("one", hands), 0), rest)

    def test_greater_worlds_than_are_handed_in(self):
        points = tuple(range(60))
        world = ((("a", points[::2]),), tuple(((point + 1) % 60,) for point in points), (("ann", (points,)),))
        self.check(points_of(world, "a"), points[::2])
        self.check(part_of(world, "ann", 59), points)
        self.check(led(world, ("on",), 59), (0,))
        self.check(led(world, ("back",), 0), (59,))
        self.check(led(world, ("one", ("ann", "bob")), 30), points)
        self.check(led(world, ("pool", ("ann", "bob")), 30), (30,))


if __name__ == "__main__":
    unittest.main()
