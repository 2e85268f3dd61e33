"""Small worlds, worlds side by side, points alike or apart: points [49], [50], [51] (with [47], [48], [54])."""

import random
import unittest

from samples import doubled_world, random_sentence, random_world, slow_seen, winding_world, without_pool
from test_alike import slow_closed
from test_parting import is_parting
from worldsay.alike import classes, lets_classes
from worldsay.judging import holds
from worldsay.small import alike_points, beside, small
from worldsay.worlds import is_world



class SmallTest(unittest.TestCase):
    def test_small(self):
        world = ((("a", (1, 2)), ("none", ())), ((1, 2), (3,), (4,), (), ()), (("ann", ((0,), (1, 2), (3, 4))),))
        self.assertEqual(small(world), (((("a", (1,)), ("none", ())), ((1,), (2,), ()), (("ann", ((0,), (1,), (2,))),)),
                                        (0, 1, 1, 2, 2)))

    def test_one_class(self):
        world = ((("a", (0, 1, 2)),), ((1,), (2,), (0,)), (("ann", ((0, 1, 2),)), ("bob", ((0,), (1,), (2,)))))
        self.assertEqual(small(world), (((("a", (0,)),), ((0,),), (("ann", ((0,),)), ("bob", ((0,),)))), (0, 0, 0)))

    def test_random_worlds(self):
        chance = random.Random(72)
        for count in range(250):
            world = chance.choice((random_world, winding_world, doubled_world))(chance, chance.choice((1, 3, 6, 12)))
            told, numbers = small(world)
            parts = classes(world)
            points = range(len(world[1]))
            self.assertTrue(is_world(told))
            self.assertIs(type(numbers), tuple)
            self.assertEqual(len(told[1]), len(parts))
            self.assertTrue(all(point in parts[numbers[point]] for point in points))
            self.assertEqual([name for name, held in told[0]], [name for name, held in world[0]])
            self.assertEqual([hand for hand, sight in told[2]], [hand for hand, sight in world[2]])
            for (name, held), (same, where) in zip(told[0], world[0]):
                self.assertTrue(all((numbers[point] in held) == (point in where) for point in points))
            for number, part in enumerate(parts):
                self.assertEqual(set(told[1][number]), {numbers[other] for point in part for other in world[1][point]})
                for other, others in enumerate(parts):
                    for hand, sight in told[2]:
                        joined = any(slow_seen(world, (), hand, p, q) for p in part for q in others)
                        self.assertEqual(slow_seen(told, (), hand, number, other), joined)
            self.assertEqual(classes(told), tuple((number,) for number in range(len(parts))))
            self.assertEqual(small(told), (told, tuple(range(len(parts)))))
            for times in range(3):
                sentence = without_pool(random_sentence(chance, 15))
                self.assertEqual(holds(world, sentence), tuple(p for p in points if numbers[p] in holds(told, sentence)))


class BesideTest(unittest.TestCase):
    def test_beside(self):
        one = ((("a", (0,)), ("c", ())), ((1,), ()), (("ann", ((0, 1),)),))
        other = ((("a", (1,)), ("b", (0,))), ((), (0, 1)), (("bob", ((0, 1),)),))
        self.assertEqual(beside(one, other), (
            (("a", (0, 3)), ("b", (2,)), ("c", ())), ((1,), (), (), (2, 3)),
            (("ann", ((0, 1), (2,), (3,))), ("bob", ((0,), (1,), (2, 3))))))

    def test_random_worlds(self):
        chance = random.Random(73)
        for count in range(250):
            one, other = random_world(chance, chance.choice((1, 4, 12))), random_world(chance, chance.choice((1, 4, 12)))
            both = beside(one, other)
            self.assertTrue(is_world(both))
            many = len(one[1])
            self.assertEqual(len(both[1]), many + len(other[1]))
            self.assertEqual({name for name, held in both[0]}, {name for name, held in one[0] + other[0]})
            self.assertEqual({hand for hand, held in both[2]}, {hand for hand, held in one[2] + other[2]})
            for times in range(3):
                sentence = random_sentence(chance, 15)
                held = tuple(point + many for point in holds(other, sentence))
                self.assertEqual(holds(both, sentence), holds(one, sentence) + held)


class AlikePointsTest(unittest.TestCase):
    def look(self, one, p, other, q):
        told = alike_points(one, p, other, q)
        both, place = beside(one, other), q + len(one[1])
        same = any(p in part and place in part for part in classes(both))
        self.assertEqual(told[0], "alike" if same else "apart")
        self.assertEqual(len(told), 2)
        if same:
            self.assertIs(lets_classes(both, told[1]), True)
            self.assertTrue(slow_closed(both, told[1]))
            self.assertTrue(any(p in part and place in part for part in told[1]))
        else:
            self.assertTrue(is_parting(both, told[1]))
            self.assertIn(p, holds(one, told[1]))
            self.assertNotIn(q, holds(other, told[1]))
        return told[0]

    def test_alike_and_apart(self):
        ring = ((("a", (0,)),), ((1,), (0,)), ())
        longer = ((("a", (0, 2)),), ((1,), (2,), (3,), (0,)), ())
        self.assertEqual(self.look(ring, 0, longer, 2), "alike")
        self.assertEqual(self.look(ring, 0, longer, 1), "apart")
        self.assertEqual(self.look(ring, 1, longer, 3), "alike")

    def test_what_is_told_in_one_alone(self):
        one = ((("a", ()), ), ((0,),), (("ann", ((0,),)),))
        other = ((), ((0,),), ())
        self.assertEqual(self.look(one, 0, other, 0), "alike")
        self.assertEqual(self.look(other, 0, one, 0), "alike")
        self.assertEqual(self.look(((("a", (0,)),), ((0,),), ()), 0, other, 0), "apart")
        self.assertEqual(self.look(((("a", (0,)),), ((0,),), ()), 0, ((("b", (0,)),), ((0,),), ()), 0), "apart")
        joined = ((("a", (0,)),), ((), ()), (("ann", ((0, 1),)),))
        self.assertEqual(self.look(joined, 0, ((("a", (0,)),), ((), ()), ()), 0), "apart")

    def test_a_world_and_its_small_one(self):
        chance = random.Random(74)
        for count in range(80):
            world = doubled_world(chance, chance.randint(1, 3))
            told, numbers = small(world)
            if len(world[1]) + len(told[1]) <= 12:
                for p in range(len(world[1])):
                    for q in range(len(told[1])):
                        self.assertEqual(self.look(world, p, told, q), "alike" if numbers[p] == q else "apart")
                        self.assertEqual(self.look(told, q, world, p), "alike" if numbers[p] == q else "apart")

    def test_random_points(self):
        chance = random.Random(75)
        found = {"alike": 0, "apart": 0}
        for count in range(300):
            make = chance.choice((random_world, winding_world, doubled_world))
            one = make(chance, chance.randint(1, 3))
            other = chance.choice((one, make(chance, chance.randint(1, 3))))
            if len(one[1]) + len(other[1]) <= 12:
                found[self.look(one, chance.randrange(len(one[1])), other, chance.randrange(len(other[1])))] += 1
        self.assertGreater(min(found.values()), 30)


if __name__ == "__main__":
    unittest.main()
