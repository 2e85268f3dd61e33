"""Points that are alike: points [47] and [48]."""

import random
import unittest
from copy import deepcopy

from samples import (JUNK, doubled_world, random_parts, random_sentence, random_world, slow_led, slow_partition,
                     winding_world, without_pool)
from worldsay.alike import classes, lets_classes
from worldsay.judging import holds


def slow_closed(world, parts):
    """Whether parts are closed, by the document's words."""
    number = {point: place for place, part in enumerate(parts) for point in part}
    steps = [("on",), ("back",)] + [("one", (hand,)) for hand, told in world[2]]
    for part in parts:
        for p in part:
            for q in part:
                if any((p in points) != (q in points) for name, points in world[0]):
                    return False
                for step in steps:
                    led = {number[other] for other in slow_led(world, (), step, q)}
                    if any(number[other] not in led for other in slow_led(world, (), step, p)):
                        return False
    return True


def all_parts(points):
    """All ways to lay points into parts."""
    if not points:
        return [()]
    told = []
    for parts in all_parts(points[:-1]):
        told.append(parts + ((points[-1],),))
        told += [parts[:place] + (part + (points[-1],),) + parts[place + 1:] for place, part in enumerate(parts)]
    return told


class ClassesTest(unittest.TestCase):
    def test_classes(self):
        # Two ends that are alike, and two ways to them.
        world = ((("a", (1, 2)),), ((1, 2), (3,), (4,), (), ()), ())
        self.assertEqual(classes(world), ((0,), (1, 2), (3, 4)))
        self.assertEqual(classes(((("a", (1,)),) + world[0][1:], world[1], ())), ((0,), (1,), (2,), (3,), (4,)))
        self.assertEqual(classes(((), ((1,), (2,), (0,)), ())), ((0, 1, 2),))
        self.assertEqual(classes(((), ((),), ())), ((0,),))

    def test_back_counts(self):
        # 1 and 2 go nowhere; only to 1 one comes.
        self.assertEqual(classes(((), ((1,), (), ()), ())), ((0,), (1,), (2,)))
        self.assertEqual(classes(((), ((1,), (), (3,), ()), ())), ((0, 2), (1, 3)))

    def test_hands_count(self):
        parts = ((0, 1), (2,))
        world = ((("a", (0,)),), ((), (), ()), (("ann", parts),))
        self.assertEqual(classes(world), ((0,), (1,), (2,)))
        self.assertEqual(classes((world[0], world[1], ())), ((0,), (1, 2)))
        self.assertEqual(classes(((), ((), (), ()), (("ann", parts),))), ((0, 1, 2),))

    def test_random_worlds(self):
        chance = random.Random(67)
        merged = 0
        for count in range(200):
            world = chance.choice((random_world, winding_world, doubled_world))(chance, chance.randint(1, 3))
            if len(world[1]) > 6:
                continue
            told = classes(world)
            self.assertTrue(slow_partition(told, len(world[1])))
            self.assertTrue(slow_closed(world, told))
            merged += len(told) < len(world[1])
            for parts in all_parts(tuple(range(len(world[1])))):
                parts = tuple(sorted(parts))
                closed = slow_closed(world, parts)
                self.assertIs(lets_classes(world, parts), closed)
                if closed:
                    self.assertTrue(all(any(set(part) <= set(one) for one in told) for part in parts))
        self.assertGreater(merged, 30)

    def test_greater_worlds(self):
        chance = random.Random(68)
        for count in range(100):
            world = doubled_world(chance, chance.randint(2, 12))
            told = classes(world)
            self.assertTrue(lets_classes(world, told))
            self.assertLess(len(told), len(world[1]))
            for times in range(5):
                sentence = without_pool(random_sentence(chance, 20))
                held = set(holds(world, sentence))
                for part in told:
                    self.assertIn(len(held & set(part)), (0, len(part)))

    def test_things_that_are_no_closed_parts(self):
        world = ((("a", (1,)),), ((1,), (), (3,), ()), (("ann", ((0, 1, 2, 3),)),))
        good = ((0,), (1,), (2,), (3,))
        self.assertIs(lets_classes(world, good), True)
        for thing in JUNK + (list(good), [good], (list(part) for part in good), ((0,), (1,), (2,)), ((1,), (0,), (2,), (3,)),
                             good + ((3,),), ((0,), (1,), (2,), (4,)), ((0, 2), (1,), (3,)), ((0,), (1, 3), (2,)),
                             ((0, 1, 2, 3),), ((), (0,), (1,), (2,), (3,)), ((False,), (True,), (2,), (3,)), ((0,), (1,), (2,), 3),
                             ((2, 0), (1,), (3,)), ((0,), (1,), (2,), (3, 3)), ((0,), (1,), (2,), ("3",)), {0: 1}, "0",
                             ((0,), (1,), (2,), [3]), ((0,), (1,), (2,), (None,)), ((0,), (1,), (-2,), (3,)), (0, 1, 2, 3)):
            thing = tuple(thing) if type(thing).__name__ == "generator" else thing
            before = deepcopy(thing)
            self.assertIs(lets_classes(world, thing), False, thing)
            self.assertEqual(repr(thing), repr(before))

    def test_random_parts(self):
        chance = random.Random(69)
        for count in range(300):
            world = doubled_world(chance, chance.randint(1, 5))
            parts = random_parts(chance, len(world[1]))
            self.assertIs(lets_classes(world, parts), slow_closed(world, parts))


if __name__ == "__main__":
    unittest.main()
