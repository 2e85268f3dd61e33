"""Ways and remembered worlds: points [31], [32] and [33]."""

import random
import unittest

from samples import random_sentence, random_world, slow_seen
from worldsay.errors import TooMany
from worldsay.judging import holds
from worldsay.remembering import remembered, ways_from
from worldsay.worlds import is_world

WORLD = ((("a", (1,)), ("none", ())), ((1, 2), (2,), ()), (("ann", ((0,), (1, 2))), ("bob", ((0, 1, 2),))))
LOOP = ((), ((0,),), ())


def slow_ways(world, firsts, days):
    if days == 0:
        return [(point,) for point in firsts]
    shorter = slow_ways(world, firsts, days - 1)
    longer = {way + (point,) for way in shorter for point in world[1][way[-1]]}
    return sorted(set(shorter) | longer, key=lambda way: (len(way), way))


class WaysTest(unittest.TestCase):
    def test_ways(self):
        self.assertEqual(ways_from(WORLD, (0,), 0), [(0,)])
        self.assertEqual(ways_from(WORLD, (0,), 1), [(0,), (0, 1), (0, 2)])
        self.assertEqual(ways_from(WORLD, (0,), 2), [(0,), (0, 1), (0, 2), (0, 1, 2)])
        self.assertEqual(ways_from(WORLD, (0,), 12), ways_from(WORLD, (0,), 2))
        self.assertEqual(ways_from(WORLD, (2,), 12), [(2,)])
        self.assertEqual(ways_from(WORLD, (1, 2), 3), [(1,), (2,), (1, 2)])
        self.assertEqual(ways_from(LOOP, (0,), 12), [(0,) * many for many in range(1, 14)])

    def test_random_ways(self):
        chance = random.Random(49)
        found = {True: 0, False: 0}
        for count in range(300):
            world = random_world(chance, chance.randint(1, 8))
            firsts = tuple(sorted(chance.sample(range(len(world[1])), chance.randint(1, len(world[1])))))
            days = chance.randint(0, 6)
            wanted = slow_ways(world, firsts, days)
            found[len(wanted) <= 200] += 1
            if len(wanted) <= 200:
                self.assertEqual(ways_from(world, firsts, days), wanted)
            else:
                for told in (ways_from, remembered):
                    with self.assertRaises(TooMany):
                        told(world, firsts, days)
        self.assertGreater(min(found.values()), 20)

    def test_two_hundred_and_one(self):
        # A fan: from 0 to each of so many points, and from there nowhere.
        for many in (19, 20):
            fan = ((), tuple(tuple(range(1, many + 1)) if point == 0 else () for point in range(24)), ())
            self.assertEqual(len(ways_from(fan, (0,), 1)), many + 1)
        wide = ((), tuple(tuple(range(14)) for point in range(14)), ())
        self.assertEqual(len(ways_from(wide, tuple(range(13)), 1)), 13 + 13 * 14)
        with self.assertRaises(TooMany):
            ways_from(wide, tuple(range(14)), 1)
        # Just two hundred, and one more.
        star = ((), tuple(tuple(range(24)) if point < 7 else () for point in range(24)), ())
        self.assertEqual(len(ways_from(star, tuple(range(8)), 1)), 8 + 7 * 24)
        self.assertEqual(len(ways_from(star, tuple(range(24)), 1)), 192)
        some = ((), tuple(tuple(range(24)) if point < 7 else tuple(range(8)) if point == 7 else () for point in range(24)), ())
        self.assertEqual(len(ways_from(some, tuple(range(24)), 1)), 200)
        more = ((), tuple(tuple(range(24)) if point < 7 else tuple(range(9)) if point == 7 else () for point in range(24)), ())
        with self.assertRaises(TooMany):
            ways_from(more, tuple(range(24)), 1)
        with self.assertRaises(TooMany):
            remembered(((), ((0, 1), (0, 1)), ()), (0, 1), 12)

    def test_told_anew(self):
        first = ways_from(WORLD, (0,), 2)
        first.clear()
        self.assertEqual(len(ways_from(WORLD, (0,), 2)), 4)


class RememberedTest(unittest.TestCase):
    def test_world(self):
        world, ways = remembered(WORLD, (0,), 2)
        self.assertEqual(ways, [(0,), (0, 1), (0, 2), (0, 1, 2)])
        self.assertEqual(world, ((("a", (1,)), ("none", ())), ((1, 2), (3,), (), ()),
                                 (("ann", ((0,), (1, 2), (3,))), ("bob", ((0,), (1, 2), (3,))))))

    def test_random_worlds(self):
        chance = random.Random(50)
        for count in range(150):
            world = random_world(chance, chance.randint(1, 5))
            firsts = tuple(sorted(chance.sample(range(len(world[1])), chance.randint(1, len(world[1])))))
            days = chance.randint(0, 3)
            if len(slow_ways(world, firsts, days)) > 90:
                continue
            told, ways = remembered(world, firsts, days)
            self.assertEqual(ways, slow_ways(world, firsts, days))
            self.assertIs(type(ways), list)
            self.assertTrue(is_world(told))
            self.assertEqual([pair[0] for pair in told[0]], [pair[0] for pair in world[0]])
            self.assertEqual([pair[0] for pair in told[2]], [pair[0] for pair in world[2]])
            for (name, points), (same, where) in zip(told[0], world[0]):
                self.assertEqual(points, tuple(number for number, way in enumerate(ways) if way[-1] in where))
            for number, way in enumerate(ways):
                self.assertEqual(told[1][number], tuple(other for other, longer in enumerate(ways) if longer[:-1] == way))
                for hand, parts in told[2]:
                    part = [part for part in parts if number in part][0]
                    self.assertEqual(part, tuple(other for other, one in enumerate(ways) if len(one) == len(way) and all(
                        slow_seen(world, (), hand, p, q) for p, q in zip(one, way))))

    def test_nothing_is_forgotten(self):
        chance = random.Random(51)
        known = 0
        for count in range(200):
            world = random_world(chance, chance.randint(1, 4))
            if len(slow_ways(world, (0,), 3)) > 60:
                continue
            told, ways = remembered(world, (0,), 3)
            sentence, hand = random_sentence(chance, 6), chance.choice(("ann", "bob", "eve"))
            behind = set(holds(told, ("every", ("one", (hand,)), ("some", ("back",), sentence))))
            for number in holds(told, ("every", ("one", (hand,)), sentence)):
                known += len(told[1][number])
                self.assertTrue(set(told[1][number]) <= behind)
        self.assertGreater(known, 100)

    def test_a_remembered_world_is_remembered(self):
        # What was told may be handed in again, however great.
        star = ((("a", (3,)),), tuple(tuple(range(24)) if point < 7 else tuple(range(8)) if point == 7 else () for point in range(24)),
                (("ann", (tuple(range(24)),)),))
        world, ways = remembered(star, tuple(range(24)), 1)
        self.assertEqual(len(world[1]), 200)
        self.assertEqual(len(remembered(world, tuple(range(200)), 0)[1]), 200)
        self.assertEqual(len(holds(world, ("every", ("one", ("ann",)), ("not", ("fact", "b"))))), 200)


if __name__ == "__main__":
    unittest.main()
