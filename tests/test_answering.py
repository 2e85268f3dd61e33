"""Answers with their papers: points [7] and [40]."""

import random
import unittest

from samples import (nested, random_plain, random_sentence, random_world, roomy_sentence, slow_holds, winding_sentence,
                     winding_world)
from slowpapers import Slow, part_of_paper
from worldsay.answering import answered
from worldsay.checking import fault_of, lets
from worldsay.errors import TooMany
from worldsay.judging import holds
from worldsay.plainwords import cored

A, B = ("fact", "a"), ("fact", "b")
ANN = ("ann",)


class AnsweredTest(unittest.TestCase):
    def answer(self, world, sentence, point, slowly=True):
        told = answered(world, sentence, point)
        self.assertIs(type(told), tuple)
        truth, paper = told
        self.assertIs(truth, point in holds(world, sentence))
        self.assertIs(type(paper), tuple)
        self.assertIs(lets(world, sentence, point, truth, paper), True, (world, sentence, point))
        self.assertIs(lets(world, sentence, point, not truth, paper), False)
        self.assertTrue(all(rank < 10 ** 4 for row in paper for rank in row[3]))
        if slowly:
            slow = Slow(world, sentence)
            self.assertIs(slow.lets(point, truth, paper), True)
            come = part_of_paper(slow, paper, (0, point, truth))
            self.assertEqual(sorted(row[:3] for row in come), sorted(row[:3] for row in paper))
        return told

    def test_small_ones(self):
        world = ((("a", (1,)),), ((1,), ()), (("ann", ((0, 1),)),))
        self.assertEqual(answered(world, A, 0), (False, ((0, 0, False, (), None),)))
        self.assertEqual(answered(world, A, 1), (True, ((0, 1, True, (), None),)))
        truth, paper = self.answer(world, ("every", ("one", ANN), A), 1)
        self.assertIs(truth, False)
        self.assertEqual(sorted(paper, key=repr), [(0, 1, False, (), 0), (1, 0, False, (), None)])
        truth, paper = self.answer(world, ("show", ANN, A, ("every", ("one", ANN), A)), 1)
        self.assertIs(truth, True)
        self.assertEqual(sorted(row[:3] for row in paper),
                         [(0, 1, True), (1, 0, False), (1, 1, True), (2, 1, True), (3, 1, True)])

    def test_each_kind_of_thing(self):
        chance = random.Random(56)
        for count in range(500):
            world = random_world(chance, chance.choice((1, 2, 4, 6)))
            sentence = chance.choice((random_sentence, roomy_sentence))(chance, chance.choice((1, 5, 12, 25)))
            self.answer(world, sentence, chance.randrange(len(world[1])))

    def test_binders_within_one_another(self):
        chance = random.Random(62)
        greatest = 0
        for count in range(300):
            world, sentence = winding_world(chance, chance.choice((3, 6, 9))), winding_sentence(chance)
            told = self.answer(world, sentence, chance.randrange(len(world[1])))
            greatest = max(greatest, max(sum(row[3]) for row in told[1]))
        self.assertGreater(greatest, 6)

    def test_plain_sentences(self):
        chance = random.Random(57)
        asked = 0
        for count in range(400):
            try:
                sentence = cored(random_plain(chance, chance.choice((3, 6, 9))))
            except TooMany:
                continue
            world = random_world(chance, chance.choice((2, 5)))
            asked += 1
            self.answer(world, sentence, chance.randrange(len(world[1])))
        self.assertGreater(asked, 150)

    def test_great_worlds(self):
        chance = random.Random(58)
        for count in range(60):
            world = random_world(chance, 24)
            sentence = chance.choice((random_sentence, roomy_sentence))(chance, chance.choice((20, 45)))
            self.answer(world, sentence, chance.randrange(24), False)

    def test_of_yes_and_no_just_one(self):
        chance = random.Random(59)
        for count in range(150):
            world, sentence = random_world(chance, 3), random_sentence(chance, 8)
            for point in range(3):
                truth = self.answer(world, sentence, point)[0]
                self.assertIs(self.answer(world, ("not", sentence), point)[0], not truth)
                self.assertIs(truth, point in slow_holds(world, sentence))

    def test_long_rows(self):
        many = 24
        world = ((("a", (many - 1,)),), tuple((point + 1,) if point < many - 1 else () for point in range(many)), ())
        for word in ("sometime", "surely", "always", "spared"):
            for inner in (A, ("not", A)):
                self.answer(world, cored((word, inner)), 0)
        self.answer(world, nested(lambda s: ("some", ("on",), s), A, 23), 0)

    def test_worlds_that_were_told(self):
        chance = random.Random(60)
        world = random_world(chance, 60)
        self.answer(world, cored(("common", ("ann", "bob"), ("sometime", A))), 0, False)

    def test_a_paper_without_a_row_is_not_let_by(self):
        chance = random.Random(61)
        for count in range(60):
            world, sentence = random_world(chance, 3), roomy_sentence(chance, 4)
            truth, paper = self.answer(world, sentence, 0)
            first = [place for place, row in enumerate(paper) if row[:3] == (0, 0, truth)][0]
            self.assertIs(lets(world, sentence, 0, truth, paper[:first] + paper[first + 1:]), False)
            self.assertIsNone(fault_of(world, sentence, paper))


if __name__ == "__main__":
    unittest.main()
