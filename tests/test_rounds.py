"""Rounds of telling: point [27] (with [25])."""

import random
import unittest

from samples import HANDS, random_sentence, random_world, slow_holds, slow_led
from worldsay.judging import holds
from worldsay.plainwords import cored
from worldsay.rounds import rounds, telling
from worldsay.showing import cut

A = ("fact", "a")
TRIPLE = ("ann", "bob", "cid")


def slow_telling(world, hands, sentence):
    """A round, by the parts of each hand: points stay joined where all hands know alike at both."""
    held = slow_holds(world, sentence)
    points = range(len(world[1]))

    def knows(hand, point):
        led = slow_led(world, (), ("one", (hand,)), point)
        return led <= held or not led & held
    shown = [tuple(knows(hand, point) for hand in hands) for point in points]
    sights = []
    for hand, parts in world[2]:
        told = []
        for part in parts:
            marks = {}
            for point in part:
                marks.setdefault(shown[point] if hand in hands else 0, []).append(point)
            told += [tuple(some) for some in marks.values()]
        sights.append((hand, tuple(sorted(told))))
    return (world[0], world[1], tuple(sights))


def muddy():
    """Three children, some of them muddy, each sees the others' brows alone; it was said that one at least is."""
    states = [(x, y, z) for x in (0, 1) for y in (0, 1) for z in (0, 1) if x or y or z]
    facts = tuple((name, tuple(point for point, state in enumerate(states) if state[place])) for place, name in enumerate("abc"))
    sights = []
    for place, hand in enumerate(TRIPLE):
        parts = {}
        for point, state in enumerate(states):
            parts.setdefault(state[:place] + state[place + 1:], []).append(point)
        sights.append((hand, tuple(sorted(tuple(part) for part in parts.values()))))
    return (facts, tuple(() for state in states), tuple(sights)), states


class RoundsTest(unittest.TestCase):
    def test_muddy_children(self):
        # Each shows at once whether it knows whether it is muddy itself: told one by one of each one's own brow.
        world, states = muddy()
        own = ("and", ("fact", "a"), ("and", ("fact", "b"), ("fact", "c")))
        worlds = rounds(world, TRIPLE, own)
        self.assertEqual(worlds[0], world)
        self.assertEqual(worlds[-1], telling(worlds[-1], TRIPLE, own))
        self.assertGreater(len(worlds), 1)

    def test_one_round(self):
        # ann can't tell 0 from 1, a holds at 1; bob can't tell 1 from 2.
        world = ((("a", (1, 2)),), ((), (), ()), (("ann", ((0, 1), (2,))), ("bob", ((0,), (1, 2)))))
        behind = telling(world, ("ann", "bob"), A)
        self.assertEqual(behind[2], (("ann", ((0, 1), (2,))), ("bob", ((0,), (1,), (2,)))))
        self.assertEqual(rounds(world, ("ann", "bob"), A), [world, behind])
        self.assertEqual(telling(behind, ("ann", "bob"), A), behind)
        # Shown to those alone who take part.
        self.assertEqual(telling(world, ("ann",), A), world)
        self.assertEqual(rounds(world, ("ann",), A), [world])
        self.assertEqual(rounds(world, ("bob",), A), [world])

    def test_hands_that_know_differently_part_one_another(self):
        world = ((("a", (0,)),), ((),) * 4, (("ann", ((0, 1), (2, 3))), ("bob", ((0, 1, 2, 3),))))
        self.assertEqual(telling(world, ("ann", "bob"), A)[2], (("ann", ((0, 1), (2, 3))), ("bob", ((0, 1), (2, 3)))))

    def test_everywhere_and_nowhere_and_hands_not_told(self):
        chance = random.Random(45)
        for count in range(50):
            world = random_world(chance, chance.randint(1, 8))
            for sentence in (("or", A, ("not", A)), ("and", A, ("not", A))):
                self.assertEqual(rounds(world, ("ann", "bob"), sentence), [world])
            self.assertEqual(rounds(world, ("eve",), random_sentence(chance, 6)), [world])

    def test_a_round_asks_the_world_ahead_of_it(self):
        # What bob comes to know by ann's telling he tells in the next round alone.
        world = ((("a", (0, 1)),), ((),) * 4, (("ann", ((0, 1), (2,), (3,))), ("bob", ((0,), (1, 2), (3,))), ("cid", ((0, 1), (2, 3)))))
        told = rounds(world, TRIPLE, ("every", ("one", ("ann", "bob")), A))
        for one, other in zip(told, told[1:]):
            self.assertEqual(other, slow_telling(one, TRIPLE, ("every", ("one", ("ann", "bob")), A)))

    def test_random_rounds(self):
        chance = random.Random(46)
        lengths = {}
        for count in range(500):
            world = random_world(chance, chance.choice((3, 6, 10)))
            hands, sentence = chance.choice(HANDS + (("ann", "bob"),)), random_sentence(chance, chance.choice((1, 2, 6)))
            told = rounds(world, hands, sentence)
            lengths[len(told)] = lengths.get(len(told), 0) + 1
            self.assertIs(type(told), list)
            self.assertEqual(told[0], world)
            for one, other in zip(told, told[1:]):
                self.assertEqual(other, slow_telling(one, hands, sentence))
                self.assertEqual(other, telling(one, hands, sentence))
                self.assertNotEqual(other, one)
            self.assertEqual(slow_telling(told[-1], hands, sentence), told[-1])
            self.assertEqual(telling(told[-1], hands, sentence), told[-1])
            self.common_who_knows(told[-1], hands, sentence)
        self.assertGreater(lengths[2], 50)
        self.assertGreater(sum(lengths[many] for many in lengths if many > 2), 5)

    def common_who_knows(self, world, hands, sentence):
        """In the last world it is common among these hands, at each point, who of them knows whether."""
        held = set(holds(world, sentence))
        name = "zzz"
        marked = (tuple(sorted(dict(world[0]).items()) + [(name, tuple(sorted(held)))]), world[1], world[2])
        for hand in hands:
            whether = ("whether", hand, ("fact", name))
            known = holds(marked, cored(whether))
            common = holds(marked, cored(("or", ("common", hands, whether), ("common", hands, ("not", whether)))))
            self.assertEqual(common, tuple(range(len(world[1]))))
            self.assertEqual(cut(world, hands, known), world)


if __name__ == "__main__":
    unittest.main()
