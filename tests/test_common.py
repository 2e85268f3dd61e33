"""What is common, levels and doubts: points [28], [29] and [30]."""

import random
import unittest

from samples import HANDS, nested, random_sentence, random_world, slow_holds, slow_led, slow_seen
from worldsay.common import common_parts, doubt, levels, pool_parts
from worldsay.judging import holds

A = ("fact", "a")
BOTH = ("ann", "bob")
# A row of six points: ann joins 0-1, 2-3, 4-5, bob 1-2, 3-4; and 6 alone.
WORLD = ((("a", (1, 2, 3, 4, 5, 6)),), ((),) * 7,
         (("ann", ((0, 1), (2, 3), (4, 5), (6,))), ("bob", ((0,), (1, 2), (3, 4), (5,), (6,)))))


class PartsTest(unittest.TestCase):
    def test_parts(self):
        self.assertEqual(common_parts(WORLD, BOTH), ((0, 1, 2, 3, 4, 5), (6,)))
        self.assertEqual(common_parts(WORLD, ("ann",)), WORLD[2][0][1])
        self.assertEqual(pool_parts(WORLD, ("ann",)), WORLD[2][0][1])
        self.assertEqual(pool_parts(WORLD, BOTH), tuple((point,) for point in range(7)))
        self.assertEqual(common_parts(WORLD, ("ann", "eve")), WORLD[2][0][1])
        self.assertEqual(pool_parts(WORLD, ("ann", "eve")), tuple((point,) for point in range(7)))
        self.assertEqual(common_parts(WORLD, ("eve",)), tuple((point,) for point in range(7)))

    def test_random_worlds(self):
        chance = random.Random(47)
        for count in range(250):
            world, hands = random_world(chance, chance.choice((1, 4, 9, 24))), chance.choice(HANDS + (BOTH,))
            points = range(len(world[1]))
            for told in (common_parts(world, hands), pool_parts(world, hands)):
                self.assertEqual(list(told), sorted(told))
                self.assertEqual(sorted(sum(told, ())), list(points))
                self.assertTrue(all(list(part) == sorted(part) for part in told))
            for part in common_parts(world, hands):
                seen, waiting = {part[0]}, [part[0]]
                while waiting:
                    fresh = slow_led(world, (), ("one", hands), waiting.pop()) - seen
                    seen |= fresh
                    waiting += fresh
                self.assertEqual(tuple(sorted(seen)), part)
            for part in pool_parts(world, hands):
                self.assertEqual(part, tuple(sorted(slow_led(world, (), ("pool", hands), part[0]))))


class LevelsTest(unittest.TestCase):
    def test_levels(self):
        self.assertEqual(levels(WORLD, BOTH, A), [0, 1, 2, 3, 4, 5, None])
        self.assertEqual(levels(WORLD, ("ann",), A), [0, 1, None, None, None, None, None])
        self.assertEqual(levels(WORLD, ("eve",), A), [0] + [None] * 6)
        self.assertEqual(levels(WORLD, BOTH, ("not", A)), [1, 0, 0, 0, 0, 0, 0])
        self.assertEqual(levels(WORLD, BOTH, ("fact", "none")), [0] * 7)
        self.assertEqual(levels(WORLD, BOTH, ("or", A, ("not", A))), [None] * 7)

    def test_random_worlds(self):
        chance = random.Random(48)
        found = {}
        for count in range(250):
            world, hands = random_world(chance, chance.choice((1, 4, 9, 24))), chance.choice(HANDS + (BOTH, ("ann",)))
            sentence = chance.choice((A, ("or", A, ("fact", "b")), random_sentence(chance, 6)))
            told = levels(world, hands, sentence)
            self.assertIs(type(told), list)
            self.assertEqual(len(told), len(world[1]))
            for many in range(5):
                every = nested(lambda s: ("every", ("one", hands), s), sentence, many)
                self.assertEqual(holds(world, every), tuple(point for point, level in enumerate(told)
                                                            if level is None or level > many))
            most = ("most", "zz", ("and", sentence, ("every", ("one", hands), ("wish", "zz"))))
            self.assertEqual(holds(world, most), tuple(point for point, level in enumerate(told) if level is None))
            held = slow_holds(world, sentence)
            for part in common_parts(world, hands):
                common = set(part) <= held
                self.assertTrue(all((told[point] is None) == common for point in part))
            for point in range(len(world[1])):
                found[told[point]] = found.get(told[point], 0) + 1
                self.doubting(world, hands, held, sentence, point, told[point])
        self.assertTrue(all(found.get(level, 0) > 10 for level in (None, 0, 1, 2, 3)), found)

    def doubting(self, world, hands, held, sentence, point, level):
        told = doubt(world, hands, sentence, point)
        if level is None:
            self.assertIsNone(told)
            return
        self.assertIs(type(told), tuple)
        self.assertEqual(len(told), level)
        for hand, other in told:
            self.assertIn(hand, hands)
            self.assertTrue(slow_seen(world, (), hand, point, other))
            point = other
        self.assertNotIn(point, held)

    def test_doubts(self):
        self.assertEqual(doubt(WORLD, BOTH, A, 0), ())
        self.assertEqual(doubt(WORLD, BOTH, A, 1), (("ann", 0),))
        self.assertEqual(doubt(WORLD, BOTH, A, 4), (("bob", 3), ("ann", 2), ("bob", 1), ("ann", 0)))
        self.assertIsNone(doubt(WORLD, BOTH, A, 6))
        self.assertIsNone(doubt(WORLD, ("bob",), A, 1))


if __name__ == "__main__":
    unittest.main()
