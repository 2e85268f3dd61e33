"""The least ranks of all right claims: point [39]."""

import itertools
import random
import unittest

from samples import random_sentence, random_world, roomy_sentence, winding_sentence, winding_world
from slowpapers import Slow
from worldsay.checking import fault_of
from worldsay.judging import holds
from worldsay.ranking import ranked

A, B = ("fact", "a"), ("fact", "b")
X, Y = ("wish", "x"), ("wish", "y")


def bound_sentence(chance):
    """A small sentence with binders within one another."""
    binders = (("x", True), ("y", True))
    inner = random_sentence(chance, chance.randint(3, 7), binders)
    return (chance.choice(("least", "most")), "x", (chance.choice(("least", "most")), "y", inner))


class RankedTest(unittest.TestCase):
    def test_facts(self):
        world = ((("a", (1,)),), ((), ()), ())
        self.assertEqual(ranked(world, A), {(0, 0, False): (), (0, 1, True): ()})

    def test_how_far(self):
        # 0 -> 1 -> 2, a at 2; 3 -> 3.
        world = ((("a", (2,)),), ((1,), (2,), (), (3,)), ())
        sometime = ("least", "x", ("or", A, ("some", ("on",), X)))
        ranks = ranked(world, sometime)
        self.assertEqual({claim: ranks[claim] for claim in ranks if claim[0] == 1},
                         {(1, 0, True): (2,), (1, 1, True): (1,), (1, 2, True): (0,), (1, 3, False): (0,)})
        self.assertEqual({claim: ranks[claim] for claim in ranks if claim[0] == 4},
                         {(4, 0, True): (3,), (4, 1, True): (2,), (4, 2, True): (1,), (4, 3, False): (0,)})
        self.assertEqual([ranks[0, point, True] for point in range(3)], [()] * 3)
        always = ("most", "x", ("and", ("not", A), ("every", ("on",), X)))
        ranks = ranked(world, always)
        self.assertEqual([ranks[1, point, False] for point in range(3)], [(2,), (1,), (0,)])
        self.assertEqual(ranks[1, 3, True], (0,))

    def test_a_greater_outer_rank_lets_inner_ones_be_nought(self):
        # From 0 by the inner wish round a ring, which never ends; by the outer one to where a holds.
        world = ((("a", (2,)), ("b", (1,))), ((0, 1), (2,), ()), ())
        sentence = ("least", "x", ("least", "y", ("or", A, ("or", ("some", ("on",), Y), ("and", B, ("some", ("on",), X))))))
        ranks = ranked(world, sentence)
        slow = Slow(world, sentence)
        self.assertEqual(ranks, slow.ranks())

    def test_each_claim_once(self):
        chance = random.Random(52)
        for count in range(100):
            world, sentence = random_world(chance, chance.randint(1, 6)), random_sentence(chance, chance.choice((5, 15)))
            slow, ranks = Slow(world, sentence), ranked(world, sentence)
            self.assertIs(type(ranks), dict)
            self.assertEqual(sorted(ranks), sorted(slow.right_claims()))
            for claim, told in ranks.items():
                self.assertEqual(len(told), len(slow.binders[claim[0]]))
                self.assertTrue(all(0 <= rank <= len(world[1]) for rank in told))
                self.assertTrue(all(hard or not rank for rank, hard in zip(told, slow.hard(claim[0], claim[2]))))

    def test_raised_slowly(self):
        chance = random.Random(53)
        greatest = 0
        for count in range(500):
            world = chance.choice((random_world, winding_world))(chance, chance.choice((1, 2, 4, 5)))
            make = chance.choice((lambda: random_sentence(chance, 14), lambda: roomy_sentence(chance, 6),
                                  lambda: bound_sentence(chance), lambda: winding_sentence(chance),
                                  lambda: winding_sentence(chance)))
            sentence = make()
            slow = Slow(world, sentence)
            ranks = ranked(world, sentence)
            self.assertEqual(ranks, slow.ranks(), (world, sentence))
            greatest = max(greatest, max(map(sum, ranks.values())))
            rows = slow.paper(ranks)
            self.assertIsNone(fault_of(world, sentence, rows))
        self.assertGreater(greatest, 3)

    def test_least_of_all_that_may_be_laid(self):
        chance = random.Random(54)
        searched = 0
        for count in range(400):
            world = random_world(chance, chance.randint(1, 2))
            sentence = chance.choice((bound_sentence(chance), random_sentence(chance, 5)))
            slow, ranks = Slow(world, sentence), ranked(world, sentence)
            options = slow.all_options()
            hard = [(claim, place) for claim in ranks for place, one in enumerate(slow.hard(claim[0], claim[2])) if one]
            if not 1 <= len(hard) <= 6:
                continue
            searched += 1
            for numbers in itertools.product(range(4), repeat=len(hard)):
                laid = {claim: [0] * len(told) for claim, told in ranks.items()}
                for (claim, place), number in zip(hard, numbers):
                    laid[claim][place] = number
                laid = {claim: tuple(told) for claim, told in laid.items()}
                if self.is_laid(slow, options, laid):
                    self.assertTrue(all(ranks[claim] <= laid[claim] for claim in laid), (world, sentence, laid))
            self.assertTrue(self.is_laid(slow, options, ranks))
        self.assertGreater(searched, 60)

    def is_laid(self, slow, options, laid):
        """Whether each claim has a row, with some choice, that is as told by all of them."""
        return all(any(all(slow.ranks_fit(claim + (laid[claim], choice), laid[other]) for other in leaned)
                       for choice, leaned in options[claim]) for claim in laid)

    def test_great_worlds(self):
        chance = random.Random(55)
        for count in range(40):
            world, sentence = random_world(chance, 24), random_sentence(chance, 58)
            ranks = ranked(world, sentence)
            held = holds(world, sentence)
            self.assertEqual({claim[1] for claim in ranks if claim[0] == 0 and claim[2]}, set(held))
            self.assertEqual(len(ranks), 24 * 58)

    def test_hard_binders_round_one_another_in_a_long_world(self):
        # Rings by the inner wishes, that never end, beside ways out by the outer ones.
        many = 24
        world = ((("a", (0,)), ("b", tuple(range(0, many, 3)))),
                 tuple(tuple(sorted({max(0, point - 1), min(many - 1, point + 1)})) for point in range(many)), ())
        p, s = ("wish", "p"), ("wish", "s")
        inner = ("or", ("or", ("and", s, s), p), ("or", ("some", ("back",), p), ("or", A, ("and", s, ("every", ("on",), s)))))
        for head in ("least", "most"):
            sentence = (head, "p", (head, "q", (head, "r", (head, "s", inner))))
            ranks = ranked(world, sentence)
            self.assertEqual(len(ranks), many * (4 + 15))
            self.assertLessEqual(max(max(told, default=0) for told in ranks.values()), many)

    def test_told_anew(self):
        world = ((("a", (0,)),), ((0,),), ())
        first = ranked(world, ("least", "x", ("or", A, X)))
        first.clear()
        self.assertEqual(len(ranked(world, ("least", "x", ("or", A, X)))), 4)


if __name__ == "__main__":
    unittest.main()
