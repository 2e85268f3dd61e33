"""Cuts and sayings: points [4], [25] and [26]."""

import random
import unittest
from copy import deepcopy

from samples import HANDS, random_sentence, random_world, slow_holds, slow_seen
from worldsay.errors import NoTruth, WorldError
from worldsay.judging import holds
from worldsay.sentences import is_sentence
from worldsay.showing import cut, said
from worldsay.worlds import is_world

A, B = ("fact", "a"), ("fact", "b")
ANN, BOB, BOTH = ("ann",), ("bob",), ("ann", "bob")
WORLD = ((("a", (1, 2)), ("b", (3,))), ((1,), (2,), (3,), (3,)),
         (("ann", ((0, 1, 3), (2,))), ("bob", ((0, 3), (1, 2)))))


def some_points(chance, many):
    return tuple(point for point in range(many) if chance.random() < 0.5)


class CutTest(unittest.TestCase):
    def test_cut(self):
        self.assertEqual(cut(WORLD, ANN, (1, 2)), (WORLD[0], WORLD[1], (("ann", ((0, 3), (1,), (2,))), WORLD[2][1])))
        self.assertEqual(cut(WORLD, BOTH, (1, 3)),
                         (WORLD[0], WORLD[1], (("ann", ((0,), (1, 3), (2,))), ("bob", ((0,), (1,), (2,), (3,))))))

    def test_cut_by_none_and_by_all(self):
        for hands in (ANN, BOTH, ("eve",), ("ann", "eve")):
            self.assertEqual(cut(WORLD, hands, ()), WORLD)
            self.assertEqual(cut(WORLD, hands, (0, 1, 2, 3)), WORLD)

    def test_hands_not_told(self):
        self.assertEqual(cut(WORLD, ("eve",), (0, 1)), WORLD)
        self.assertEqual(cut(((), ((), ()), ()), ANN, (0,)), ((), ((), ()), ()))

    def test_random_cuts(self):
        chance = random.Random(34)
        for count in range(400):
            many = chance.randint(1, 24)
            world = random_world(chance, many)
            hands, points = chance.choice(HANDS), some_points(chance, many)
            others, more = chance.choice(HANDS), some_points(chance, many)
            once = cut(world, hands, points)
            self.assertTrue(is_world(once))
            self.assertEqual(once[:2], world[:2])
            self.assertEqual([pair[0] for pair in once[2]], [pair[0] for pair in world[2]])
            for hand, parts in once[2]:
                for point in range(many):
                    part = [part for part in parts if point in part][0]
                    self.assertEqual(part, tuple(other for other in range(many)
                                                 if slow_seen(world, ((hands, points),), hand, point, other)))
            self.assertEqual(cut(once, hands, points), once)
            self.assertEqual(cut(once, hands, tuple(point for point in range(many) if point not in points)), once)
            self.assertEqual(cut(once, others, more), cut(cut(world, others, more), hands, points))

    def test_shows_and_cuts(self):
        chance = random.Random(35)
        for count in range(400):
            world = random_world(chance, chance.randint(1, 8))
            one, other, hands = random_sentence(chance, 6), random_sentence(chance, 8), chance.choice(HANDS)
            behind = cut(world, hands, holds(world, one))
            sentence = ("show", hands, one, other)
            if is_sentence(sentence):
                self.assertEqual(holds(world, sentence), holds(behind, other))


class SaidTest(unittest.TestCase):
    def refused(self, world, point, sayings, place):
        before = deepcopy(sayings)
        with self.assertRaises(NoTruth) as caught:
            said(world, point, sayings)
        self.assertEqual(caught.exception.place, place)
        self.assertIsInstance(caught.exception, WorldError)
        self.assertEqual(sayings, before)

    def test_no_saying(self):
        self.assertEqual(said(WORLD, 0, []), WORLD)

    def test_sayings(self):
        self.assertEqual(said(WORLD, 1, [(ANN, A)]), cut(WORLD, ANN, (1, 2)))
        self.assertEqual(said(WORLD, 1, [(ANN, A), (BOB, ("some", ("on",), A))]),
                         cut(cut(WORLD, ANN, (1, 2)), BOB, (0, 1)))

    def test_what_is_not_so(self):
        self.refused(WORLD, 0, [(ANN, A)], 0)
        self.refused(WORLD, 1, [(ANN, A), (ANN, B)], 1)
        self.refused(WORLD, 1, [(ANN, A), (ANN, ("not", ("every", ("one", ANN), A)))], 1)
        self.refused(WORLD, 1, [(BOTH, A)] * 11 + [(BOTH, B)], 11)

    def test_what_was_so_may_be_so_no_more(self):
        moore = ("and", A, ("not", ("every", ("one", ANN), A)))
        self.assertIn(1, holds(WORLD, moore))
        behind = said(WORLD, 1, [(ANN, moore)])
        self.assertNotIn(1, holds(behind, moore))
        self.refused(WORLD, 1, [(ANN, moore), (ANN, moore)], 1)
        self.assertEqual(said(WORLD, 1, [(BOB, moore), (BOB, moore)]), said(WORLD, 1, [(BOB, moore)]))

    def test_random_sayings(self):
        chance = random.Random(36)
        found = {"told": 0, "refused": 0, "shows": 0}
        for count in range(900):
            world = random_world(chance, chance.randint(1, 7))
            point = chance.randrange(len(world[1]))
            sayings = [(chance.choice(HANDS), random_sentence(chance, chance.randint(1, 6))) for row in range(chance.randint(0, 4))]
            room, place = (), None
            for number, (hands, sentence) in enumerate(sayings):
                held = slow_holds(world, sentence, room)
                if point not in held:
                    place = number
                    break
                room += ((hands, held),)
            if place is not None:
                found["refused"] += 1
                self.refused(world, point, sayings, place)
                continue
            found["told"] += 1
            behind = said(world, point, sayings)
            self.assertTrue(is_world(behind))
            sentence = after = random_sentence(chance, 8)
            for hands, saying in reversed(sayings):
                sentence = ("show", hands, saying, sentence)
            if is_sentence(sentence):
                found["shows"] += len(sayings) > 1
                self.assertEqual(point in holds(behind, after), point in holds(world, sentence))
            self.assertEqual(set(holds(behind, after)), slow_holds(world, after, room))
        self.assertGreater(min(found.values()), 30)


if __name__ == "__main__":
    unittest.main()
