"""Points parted by sentences: points [53] and [54]."""

import random
import unittest

from samples import doubled_world, random_world, slow_holds, winding_world
from worldsay.alike import classes
from worldsay.judging import holds
from worldsay.nodes import things_of
from worldsay.parting import parted
from worldsay.sentencetexts import shown_sentence


def depth(sentence):
    return 1 + max([depth(part) for part in sentence[1:] if isinstance(part, tuple) and part[0] in (
        "fact", "not", "and", "or", "some", "every")], default=0)


def is_parting(world, sentence):
    """Whether a sentence has such things alone as point 54 lets."""
    steps = [("on",), ("back",)] + [("one", (hand,)) for hand, parts in world[2]]
    for thing in things_of(sentence):
        if thing[0] not in ("fact", "not", "and", "or", "some", "every"):
            return False
        if thing[0] in ("some", "every") and thing[1] not in steps:
            return False
    return len(things_of(sentence)) <= 20000 and depth(sentence) <= 60


class PartedTest(unittest.TestCase):
    def look(self, world, slowly=True):
        told = classes(world)
        number = {point: place for place, part in enumerate(told) for point in part}
        parted_points = 0
        for p in range(len(world[1])):
            for q in range(len(world[1])):
                sentence = parted(world, p, q)
                if number[p] == number[q]:
                    self.assertIsNone(sentence)
                    continue
                parted_points += 1
                self.assertTrue(is_parting(world, sentence), (world, p, q))
                held = slow_holds(world, sentence) if slowly else holds(world, sentence)
                self.assertEqual(tuple(sorted(held)), holds(world, sentence))
                self.assertTrue(p in held and q not in held, (world, p, q, sentence))
        return parted_points

    def test_by_a_fact(self):
        world = ((("a", (0,)),), ((), ()), ())
        self.assertEqual(self.look(world), 2)
        self.assertIsNone(parted(world, 0, 0))

    def test_by_steps_without_facts(self):
        self.assertEqual(self.look(((), ((1,), (2,), ()), ())), 6)
        self.assertEqual(self.look(((), ((1,), (), ()), ())), 6)
        self.assertEqual(self.look(((), ((0,), (), ()), ())), 4)
        self.assertEqual(self.look(((), ((0,), (1,)), ())), 0)

    def test_by_hands(self):
        world = ((("a", (0,)),), ((), (), ()), (("ann", ((0, 1), (2,))),))
        self.assertEqual(self.look(world), 6)

    def test_random_worlds(self):
        chance = random.Random(70)
        seen = 0
        for count in range(150):
            seen += self.look(chance.choice((random_world, winding_world, doubled_world))(chance, chance.randint(1, 6)))
        self.assertGreater(seen, 300)

    def test_twelve_points(self):
        for moves in (tuple((point + 1,) if point < 11 else () for point in range(12)),
                      tuple((point + 1,) if point < 11 else (0, 5) for point in range(12))):
            self.look(((), moves, ()), False)
            self.look(((), moves, (("ann", ((0, 11),) + tuple((point,) for point in range(1, 11))),)), False)
        chance = random.Random(71)
        for count in range(12):
            self.look(chance.choice((random_world, winding_world))(chance, 12), False)

    def test_rows_of_joined_points(self):
        # A row of twelve points that hands alone join, a fact at its end: the farthest go deepest.
        ann = tuple((point, point + 1) for point in range(0, 12, 2))
        bob = ((0,),) + tuple((point, point + 1) for point in range(1, 11, 2)) + ((11,),)
        world = ((("a", (0,)),), ((),) * 12, (("ann", ann), ("bob", bob)))
        self.assertEqual(len(classes(world)), 12)
        self.look(world, False)
        self.assertIn("one", shown_sentence(parted(world, 10, 11)))


if __name__ == "__main__":
    unittest.main()
