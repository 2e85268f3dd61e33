"""Papers carried from small worlds: points [6], [7] and [52]."""

import random
import unittest

from samples import doubled_world, random_sentence, roomy_sentence, winding_sentence, without_pool
from slowpapers import Slow, greater_ranks
from worldsay.answering import answered
from worldsay.carrying import carried
from worldsay.checking import fault_of, lets
from worldsay.judging import holds
from worldsay.small import small

A = ("fact", "a")


def some_sentence(chance):
    return without_pool(chance.choice((lambda: random_sentence(chance, 12), lambda: roomy_sentence(chance, 5),
                                       lambda: winding_sentence(chance)))())


class CarriedTest(unittest.TestCase):
    def carry(self, world, sentence, paper):
        told, numbers = small(world)
        behind = carried(world, sentence, paper)
        self.assertIs(type(behind), tuple)
        self.assertIsNone(fault_of(world, sentence, behind), (world, sentence, paper))
        let = 0
        for point in range(len(world[1])):
            for truth in (True, False):
                if lets(told, sentence, numbers[point], truth, paper):
                    let += 1
                    self.assertIs(lets(world, sentence, point, truth, behind), True, (world, sentence, paper))
        self.assertGreater(let, 0)
        return behind

    def test_small_ones(self):
        # Two points that can't be told apart, alike but for their numbers.
        world = ((("a", (0, 1)),), ((1,), (0,)), (("ann", ((0, 1),)),))
        told, numbers = small(world)
        self.assertEqual(numbers, (0, 0))
        for sentence in (A, ("some", ("one", ("ann",)), A), ("every", ("one", ("ann",)), A), ("some", ("on",), A),
                         ("every", ("back",), A), ("show", ("ann",), A, ("some", ("one", ("ann",)), A)),
                         ("not", ("every", ("one", ("ann",)), ("not", A)))):
            self.carry(world, sentence, answered(told, sentence, 0)[1])

    def test_own_papers(self):
        chance = random.Random(76)
        for count in range(400):
            world, sentence = doubled_world(chance, chance.choice((1, 2, 4))), some_sentence(chance)
            told = small(world)[0]
            point = chance.randrange(len(told[1]))
            truth, paper = answered(told, sentence, point)
            self.carry(world, sentence, paper)
            self.assertIs(truth, point in holds(told, sentence))

    def test_papers_of_others(self):
        chance = random.Random(77)
        for count in range(250):
            world, sentence = doubled_world(chance, chance.choice((1, 2, 4))), some_sentence(chance)
            slow = Slow(small(world)[0], sentence)
            # All right claims have rows there, more than are wanted.
            self.carry(world, sentence, slow.other_paper(chance))
            paper = greater_ranks(slow, answered(slow.world, sentence, 0)[1], 10 ** 40, 10 ** 50)
            self.carry(world, sentence, paper)

    def test_great_worlds(self):
        chance = random.Random(78)
        for count in range(25):
            world = doubled_world(chance, 12)
            sentence = without_pool(random_sentence(chance, 40))
            told = small(world)[0]
            self.carry(world, sentence, answered(told, sentence, chance.randrange(len(told[1])))[1])

    def test_hands_that_are_shown_apart(self):
        # One of two hands of a step is shown to tell the points apart: the other one's has to be chosen.
        chance = random.Random(79)
        carried_over = 0
        for count in range(300):
            world = doubled_world(chance, chance.choice((2, 3, 4)))
            hands = chance.choice((("ann",), ("bob",), ("ann", "bob")))
            sentence = ("show", hands, ("fact", chance.choice("ab")),
                        (chance.choice(("some", "every")), ("one", ("ann", "bob")), ("fact", chance.choice("ab"))))
            told = small(world)[0]
            for point in range(len(told[1])):
                behind = self.carry(world, sentence, answered(told, sentence, point)[1])
                carried_over += any(row[4] is not None and row[4] != row[1] for row in behind if row[0] == 2)
        self.assertGreater(carried_over, 60)


if __name__ == "__main__":
    unittest.main()
