"""Sentences turned and gone through: points [7], [55] and [56]."""

import random
import unittest

from samples import BINDERS, random_sentence, random_world, roomy_sentence, slow_holds, slow_walk, winding_sentence, winding_world
from slowpapers import Slow, greater_ranks
from worldsay.answering import answered
from worldsay.checking import fault_of, lets
from worldsay.judging import holds
from worldsay.nodes import things_of
from worldsay.sentences import is_sentence
from worldsay.turning import turned, turned_paper, unfolded

A, B = ("fact", "a"), ("fact", "b")
X = ("wish", "x")
ANN = ("ann",)


def not_of(s):
    return ("not", s)


def is_turned(sentence):
    """Whether each not stands just ahead of a fact."""
    return all(thing[0] != "not" or thing[1][0] == "fact" for thing in things_of(sentence))


def some_sentence(chance):
    """A sentence of at most thirty things."""
    while True:
        sentence = chance.choice((lambda: random_sentence(chance, 14), lambda: random_sentence(chance, 29),
                                  lambda: roomy_sentence(chance, 5), lambda: winding_sentence(chance)))()
        sentence = not_of(sentence) if chance.random() < 0.5 else sentence
        if len(things_of(sentence)) <= 30:
            return sentence


class TurnedTest(unittest.TestCase):
    def look(self, sentence, worlds):
        told = turned(sentence)
        self.assertTrue(is_sentence(told), sentence)
        self.assertTrue(is_turned(told), sentence)
        self.assertEqual(turned(sentence), told)
        for world in worlds:
            self.assertEqual(holds(world, told), tuple(sorted(slow_holds(world, sentence))), (world, sentence))
        return told

    def test_nots_of_each_kind(self):
        chance = random.Random(80)
        worlds = [random_world(chance, many) for many in (1, 2, 4, 4, 6) for times in range(6)]
        for sentence in (A, ("and", A, B), ("or", A, not_of(B)), ("some", ("on",), A), ("every", ("back",), A),
                         ("some", ("one", ANN), not_of(A)), ("every", ("pool", ("ann", "bob")), A),
                         ("least", "x", ("or", A, ("some", ("on",), X))), ("most", "x", ("and", A, ("every", ("on",), X))),
                         ("least", "x", not_of(("and", A, not_of(X)))), ("show", ANN, A, ("every", ("one", ANN), A)),
                         ("show", ANN, not_of(("and", A, B)), not_of(("some", ("one", ANN), not_of(A)))),
                         ("show", ANN, not_of(("show", ANN, not_of(A), ("some", ("one", ANN), B))), not_of(("every", ("one", ANN), B)))):
            for many in range(4):
                self.look(sentence, worlds)
                sentence = not_of(sentence)

    def test_what_is_turned_already(self):
        for sentence in (A, not_of(A), ("and", not_of(A), B), ("least", "x", ("or", not_of(A), X))):
            self.look(sentence, [])

    def test_thirty_nots_and_thirty_things(self):
        sentence = A
        for many in range(29):
            sentence = not_of(sentence)
        self.look(sentence, [((("a", (0,)),), ((), ()), ())])
        # Fourteen joints and fifteen facts, all behind one not: sixty things at the most.
        wide = A
        for many in range(14):
            wide = ("and", wide, B)
        self.assertEqual(len(things_of(not_of(wide))), 30)
        self.look(not_of(wide), [((("a", (0,)), ("b", (0, 1))), ((), ()), ())])

    def test_random_sentences(self):
        chance = random.Random(81)
        for count in range(500):
            self.look(some_sentence(chance), [random_world(chance, chance.choice((1, 2, 5))) for times in range(3)])

    def test_papers(self):
        chance = random.Random(82)
        found = {"own": 0, "other": 0, "denied": 0}
        for count in range(400):
            world = chance.choice((random_world, winding_world))(chance, chance.choice((1, 2, 4)))
            sentence = some_sentence(chance)
            told = turned(sentence)
            slow = Slow(world, sentence)
            point = chance.randrange(len(world[1]))
            truth, own = answered(world, sentence, point)
            papers = [own, greater_ranks(slow, own, 10 ** 30, 10 ** 50)]
            if chance.random() < 0.4:
                papers.append(slow.other_paper(chance))
                found["other"] += 1
            for paper in papers:
                behind = turned_paper(sentence, paper)
                self.assertIs(type(behind), tuple)
                self.assertIsNone(fault_of(world, told, behind), (world, sentence, paper))
                for place in range(len(world[1])):
                    for one in (True, False):
                        if lets(world, sentence, place, one, paper):
                            self.assertIs(lets(world, told, place, one, behind), True, (world, sentence, paper))
                found["own"] += 1
                found["denied"] += len([row for row in behind if things_of(told)[row[0]][0] == "not"]) > 0
            self.assertIs(truth, point in holds(world, told))
        self.assertGreater(min(found.values()), 50)


class UnfoldedTest(unittest.TestCase):
    def test_unfolded(self):
        sometime = ("least", "x", ("or", A, ("some", ("on",), X)))
        self.assertEqual(unfolded(sometime), ("or", A, ("some", ("on",), sometime)))
        self.assertEqual(unfolded(("most", "x", ("and", X, ("not", ("not", X))))),
                         ("and", ("most", "x", ("and", X, ("not", ("not", X)))),
                          ("not", ("not", ("most", "x", ("and", X, ("not", ("not", X))))))))
        self.assertEqual(unfolded(("least", "x", A)), A)
        self.assertEqual(unfolded(("least", "x", X)), ("least", "x", X))

    def test_sentences_that_begin_otherwise(self):
        for sentence in (A, ("not", ("least", "x", X)), ("and", A, B), ("some", ("on",), A), ("show", ANN, A, B)):
            self.assertIsNone(unfolded(sentence))

    def test_what_would_be_no_sentence(self):
        # A binder within one of its own name; more than four binders; more than sixty things.
        self.assertIsNone(unfolded(("least", "x", ("most", "y", ("and", ("wish", "y"), X)))))
        self.assertEqual(unfolded(("least", "x", ("and", X, ("most", "y", ("wish", "y"))))),
                         ("and", ("least", "x", ("and", X, ("most", "y", ("wish", "y")))), ("most", "y", ("wish", "y"))))
        wide = ("or", A, X)
        for many in range(5):
            wide = ("and", wide, ("or", B, X))
        self.assertIsNone(unfolded(("least", "x", wide)))
        long = ("some", ("on",), X)
        for many in range(27):
            long = ("some", ("on",), long)
        self.assertIsNotNone(unfolded(("least", "x", long)))
        longer = ("some", ("on",), long)
        self.assertEqual(len(things_of(unfolded(("least", "x", longer)))), 60)
        self.assertIsNone(unfolded(("least", "x", ("some", ("on",), longer))))

    def test_random_sentences(self):
        chance = random.Random(83)
        found = {True: 0, False: 0}
        for count in range(800):
            sentence = chance.choice((lambda: random_sentence(chance, 12), lambda: winding_sentence(chance),
                                      lambda: (chance.choice(BINDERS), "p", random_sentence(chance, 10, (("p", True),)))))()
            told = unfolded(sentence)
            if sentence[0] not in BINDERS:
                self.assertIsNone(told)
                continue
            wanted = self.replaced(sentence[2], sentence)
            self.assertEqual(told, wanted if is_sentence(wanted) else None)
            found[told is not None] += 1
            if told is not None:
                world = random_world(chance, chance.choice((1, 2, 5)))
                self.assertEqual(holds(world, told), holds(world, sentence))
                self.assertTrue(all(thing[0] != "wish" or chain for thing, chain in slow_walk(told)))
        self.assertGreater(min(found.values()), 40)

    def replaced(self, thing, whole):
        if thing == ("wish", whole[1]):
            return whole
        return tuple(self.replaced(part, whole) if isinstance(part, tuple) else part for part in thing)


if __name__ == "__main__":
    unittest.main()
