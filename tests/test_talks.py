"""Talks about papers: points [7], [44] and [45]."""

import random
import unittest

from samples import random_sentence, random_world, roomy_sentence, winding_sentence, winding_world
from slowpapers import Slow
from worldsay.answering import answered
from worldsay.claims import hard_at
from worldsay.nodes import binders_at
from worldsay.plainwords import cored
from worldsay.talks import talked

A = ("fact", "a")
WORLD = ((("a", (2,)),), ((1,), (2,), (), (3,)), ())


class TalksTest(unittest.TestCase):
    def test_to_a_fact(self):
        self.assertEqual(talked(WORLD, A, 2, True, ((0, 2, True, (), None),), []), ([(0, 2, True)], ("fact",)))
        sometime = cored(("sometime", A))
        paper = answered(WORLD, sometime, 0)[1]
        claims, end = talked(WORLD, sometime, 0, True, paper, [])
        self.assertEqual(claims, [(0, 0, True), (1, 0, True), (3, 0, True), (4, 1, True), (1, 1, True), (3, 1, True), (4, 2, True),
                                  (1, 2, True), (2, 2, True)])
        self.assertEqual(end, ("fact",))

    def test_to_a_row_that_leans_on_nothing(self):
        must = ("every", ("on",), A)
        self.assertEqual(talked(WORLD, must, 2, True, ((0, 2, True, (), None),), [3]), ([(0, 2, True)], ("none",)))

    def test_round_a_ring(self):
        # 0 most, 1 and, 2 not, 3 a, 4 every, 5 wish
        always = cored(("always", ("not", A)))
        paper = answered(WORLD, always, 3)[1]
        self.assertEqual(talked(WORLD, always, 3, True, paper, []),
                         ([(0, 3, True), (1, 3, True), (2, 3, True), (3, 3, False)], ("fact",)))
        ring = [(0, 3, True), (1, 3, True), (4, 3, True), (5, 3, True), (1, 3, True)]
        for picks in ([0, 1], [5, 3, 2], [0, 1, 0, 0, 0, 7], [10 ** 50, 10 ** 50 + 1]):
            self.assertEqual(talked(WORLD, always, 3, True, paper, picks), (ring, ("ring", 0)))

    def test_the_outermost_binder_since_the_claim_stood_first(self):
        # 0 most x, 1 most y, 2 and, 3 every on x, 4 wish x, 5 every on y, 6 wish y
        sentence = ("most", "x", ("most", "y", ("and", ("every", ("on",), ("wish", "x")), ("every", ("on",), ("wish", "y")))))
        paper = answered(WORLD, sentence, 3)[1]
        self.assertEqual(talked(WORLD, sentence, 3, True, paper, [0, 0, 0])[1], ("ring", 0))
        self.assertEqual(talked(WORLD, sentence, 3, True, paper, [0, 0, 1])[1], ("ring", 1))
        # By the inner one only since the claim that came again stood first.
        world = ((("a", (2,)),), ((1,), (1,)), ())
        claims, end = talked(world, sentence, 0, True, answered(world, sentence, 0)[1], [0, 0, 0, 0, 0, 0, 1, 0, 0])
        self.assertEqual(end, ("ring", 1))
        self.assertIn((4, 1, True), claims)

    def test_picks_are_left_as_they_are(self):
        always = cored(("always", ("not", A)))
        picks = [0, 1, 2]
        talked(WORLD, always, 3, True, answered(WORLD, always, 3)[1], picks)
        self.assertEqual(picks, [0, 1, 2])

    def test_random_talks(self):
        chance = random.Random(66)
        found = {"fact": 0, "none": 0, "ring": 0, "several": 0}
        for count in range(1200):
            world = chance.choice((random_world, winding_world))(chance, chance.choice((1, 3, 5)))
            sentence = chance.choice((lambda: random_sentence(chance, 10), lambda: roomy_sentence(chance, 5),
                                      lambda: winding_sentence(chance)))()
            point = chance.randrange(len(world[1]))
            slow = Slow(world, sentence)
            truth, paper = answered(world, sentence, point)
            if chance.random() < 0.3:
                paper = slow.other_paper(chance)
            rows = {row[:3]: row for row in paper}
            picks = [chance.choice((0, 1, 2, 7, 10 ** 40)) for pick in range(chance.choice((0, 3, 40)))]
            claims, end = talked(world, sentence, point, truth, paper, picks)
            self.assertIs(type(claims), list)
            self.assertEqual(claims[0], (0, point, truth))
            for place, claim in enumerate(claims[:-1]):
                leaned = slow.leans(rows, rows[claim])
                pick = picks[place] if place < len(picks) else 0
                self.assertEqual(claims[place + 1], leaned[pick % len(leaned)])
                self.assertEqual(claims.index(claim), place)
            found[end[0]] += 1
            if end[0] == "ring":
                since = claims[claims.index(claims[-1]):]
                gone = {slow.own_binder(number) for number, p, t in since if slow.things[number][0] == "wish"}
                found["several"] += len(gone) > 1
                self.assertEqual(end, ("ring", min(gone, key=lambda binder: len(slow.binders[binder]))))
                self.assertLess(claims.index(claims[-1]), len(claims) - 1)
                for number, p, t in since:
                    place = binders_at(sentence)[number].index(end[1])
                    self.assertIs(hard_at(sentence, number, t)[place], False)
            else:
                self.assertEqual(slow.leans(rows, rows[claims[-1]]), [])
                self.assertEqual(end, ("fact",) if slow.things[claims[-1][0]][0] == "fact" else ("none",))
                self.assertEqual(len(set(claims)), len(claims))
        self.assertGreater(min(found[end] for end in ("fact", "none", "ring")), 15)
        self.assertGreater(found["several"], 0)


if __name__ == "__main__":
    unittest.main()
