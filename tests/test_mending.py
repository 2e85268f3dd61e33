"""Changes, and papers mended behind them: points [7], [41] and [42]."""

import random
import unittest
from copy import deepcopy

from samples import (JUNK, nested, random_parts, random_sentence, random_world, roomy_sentence, winding_sentence,
                     winding_world)
from slowpapers import Slow, greater_ranks, part_of_paper
from worldsay.answering import answered
from worldsay.checking import lets
from worldsay.errors import NoChange
from worldsay.judging import holds
from worldsay.mending import changed, mended
from worldsay.plainwords import cored
from worldsay.worlds import is_world, part_of, points_of

A, B = ("fact", "a"), ("fact", "b")
WORLD = ((("a", (1, 2)), ("c", ())), ((1,), (2,), ()), (("ann", ((0, 1), (2,))),))


def random_change(chance, world):
    many = len(world[1])

    def point():
        return chance.randrange(many)
    sort = chance.choice(("fact", "move", "split", "join"))
    if sort == "fact":
        return (sort, chance.choice("abcz"), point())
    if sort == "move":
        return (sort, point(), point())
    hand = chance.choice(("ann", "bob", "cid", "eve"))
    if sort == "split":
        return (sort, hand, tuple(one for one in range(many) if chance.random() < 0.5))
    return (sort, hand, point(), point())


class ChangedTest(unittest.TestCase):
    def refused(self, change, world=WORLD):
        with self.subTest(change=change):
            before = deepcopy(change)
            with self.assertRaises(NoChange):
                changed(world, change)
            self.assertEqual(repr(change), repr(before))

    def test_facts(self):
        self.assertEqual(changed(WORLD, ("fact", "a", 1))[0], (("a", (2,)), ("c", ())))
        self.assertEqual(changed(WORLD, ("fact", "a", 0))[0], (("a", (0, 1, 2)), ("c", ())))
        self.assertEqual(changed(WORLD, ("fact", "c", 2))[0], (("a", (1, 2)), ("c", (2,))))
        self.assertEqual(changed(WORLD, ("fact", "b", 0))[0], (("a", (1, 2)), ("b", (0,)), ("c", ())))
        self.assertEqual(changed(WORLD, ("fact", "d", 0))[0], (("a", (1, 2)), ("c", ()), ("d", (0,))))
        # A fact that holds nowhere any more stays told.
        self.assertEqual(changed(changed(WORLD, ("fact", "b", 0)), ("fact", "b", 0))[0], (("a", (1, 2)), ("b", ()), ("c", ())))

    def test_moves(self):
        self.assertEqual(changed(WORLD, ("move", 0, 1))[1], ((), (2,), ()))
        self.assertEqual(changed(WORLD, ("move", 0, 0))[1], ((0, 1), (2,), ()))
        self.assertEqual(changed(WORLD, ("move", 2, 2))[1], ((1,), (2,), (2,)))
        self.assertEqual(changed(WORLD, ("move", 1, 0))[1], ((1,), (0, 2), ()))

    def test_splits(self):
        apart = (("ann", ((0,), (1,), (2,))),)
        self.assertEqual(changed(WORLD, ("split", "ann", (0,)))[2], apart)
        self.assertEqual(changed(WORLD, ("split", "ann", (1, 2)))[2], apart)
        for points in ((), (0, 1, 2), (2,), (0, 1)):
            self.assertEqual(changed(WORLD, ("split", "ann", points)), WORLD)
        for points in ((), (0,), (0, 1, 2)):
            self.assertEqual(changed(WORLD, ("split", "bob", points)), WORLD)

    def test_joins(self):
        self.assertEqual(changed(WORLD, ("join", "ann", 0, 2))[2], (("ann", ((0, 1, 2),)),))
        self.assertEqual(changed(WORLD, ("join", "ann", 2, 1))[2], (("ann", ((0, 1, 2),)),))
        self.assertEqual(changed(WORLD, ("join", "ann", 0, 1)), WORLD)
        self.assertEqual(changed(WORLD, ("join", "ann", 2, 2)), WORLD)
        self.assertEqual(changed(WORLD, ("join", "bob", 2, 0))[2], (WORLD[2][0], ("bob", ((0, 2), (1,)))))
        # Behind a join a hand is told, though it still tells all points apart.
        self.assertEqual(changed(WORLD, ("join", "abe", 1, 1))[2], (("abe", ((0,), (1,), (2,))), WORLD[2][0]))

    def test_things_that_are_no_change(self):
        for change in JUNK + (
                ("fact", "a"), ("fact", "a", 3), ("fact", "a", -1), ("fact", "a", True), ("fact", "a", False), ("fact", "a", "1"),
                ("fact", "a", None), ("fact", "a", (1,)), ("fact", "A", 1), ("fact", "", 1), ("fact", "abcdefghi", 1),
                ("fact", None, 1), ("fact", 1, 1), ("fact", "a", 1, 1), ["fact", "a", 1], ("Fact", "a", 1), ("move", 0),
                ("move", 0, 3), ("move", 3, 0), ("move", -1, 0), ("move", 0, True), ("move", False, 0), ("move", "0", 0),
                ("move", 0, 0, 0), ("move", 0, (1,)), ["move", 0, 1], ("move", None, 0), ("split", "ann"), ("split", "ann", 0),
                ("split", "ann", [0]), ("split", "ann", (1, 0)), ("split", "ann", (0, 0)), ("split", "ann", (0, 3)),
                ("split", "ann", (-1,)), ("split", "ann", (True,)), ("split", "ann", (0, True)), ("split", "ann", ("0",)),
                ("split", "ann", {}), ("split", "ann", None), ("split", "Ann", (0,)), ("split", None, (0,)),
                ("split", ("ann",), (0,)), ("split", "ann", (0,), (1,)), ("split", "bob", (1, 0)), ("join", "ann", 0),
                ("join", "ann", 0, 3), ("join", "ann", -1, 0), ("join", "ann", True, 0), ("join", "ann", 0, False),
                ("join", "Ann", 0, 1), ("join", ("ann",), 0, 1), ("join", "ann", (0, 1)), ("join", "ann", 0, 1, 2),
                ["join", "ann", 0, 1], ("joins", "ann", 0, 1), {"fact": ("a", 1)}, (["fact"], "a", 1), ({}, "a", 1),
                ("fact", ["a"], 1), ("fact", {}, 1), (None, "a", 1), (("fact",), "a", 1), "fact a 1", ("move", {}, []),
                ("fact", "a", 10 ** 99)):
            self.refused(change)

    def test_random_changes(self):
        chance = random.Random(63)
        for count in range(800):
            world = random_world(chance, chance.choice((1, 3, 8)))
            change = random_change(chance, world)
            told = changed(world, change)
            self.assertTrue(is_world(told))
            points = range(len(world[1]))
            if change[0] == "fact":
                self.assertEqual(told[1:], world[1:])
                self.assertEqual(set(points_of(told, change[1])), set(points_of(world, change[1])) ^ {change[2]})
                self.assertEqual({name for name, where in told[0]}, {name for name, where in world[0]} | {change[1]})
                back = changed(told, change)
                self.assertEqual([pair for pair in back[0] if pair != (change[1], ())], [pair for pair in world[0] if pair != (change[1], ())])
            elif change[0] == "move":
                self.assertEqual((told[0], told[2]), (world[0], world[2]))
                self.assertEqual(changed(told, change), world)
                self.assertEqual(set(told[1][change[1]]), set(world[1][change[1]]) ^ {change[2]})
            else:
                self.assertEqual(told[:2], world[:2])
                hands = {hand for hand, parts in world[2]}
                self.assertEqual({hand for hand, parts in told[2]}, hands | ({change[1]} if change[0] == "join" else set()))
                for hand in hands | {change[1]}:
                    for point in points:
                        wanted = set(part_of(world, hand, point))
                        if hand == change[1] and change[0] == "split":
                            wanted = {other for other in wanted if (other in change[2]) == (point in change[2])}
                        elif hand == change[1]:
                            both = set(part_of(world, hand, change[2])) | set(part_of(world, hand, change[3]))
                            wanted = both if point in both else wanted
                        self.assertEqual(set(part_of(told, hand, point)), wanted)


class MendedTest(unittest.TestCase):
    def mend(self, world, sentence, point, truth, paper, change):
        """Mends a paper and looks at all that is told of it; whether it stayed as it was, and how many rows were kept."""
        told = mended(world, sentence, point, truth, paper, change)
        self.assertIs(type(told), tuple)
        behind = changed(world, change)
        slow = Slow(behind, sentence)
        if slow.lets(point, truth, paper):
            self.assertEqual(told, (truth, paper))
            return told, True, len(paper)
        kept = {row[:3]: row for row in paper}
        going = True
        while going:
            good = {claim: row for claim, row in kept.items() if slow.as_told(kept, row)}
            going, kept = len(good) < len(kept), good
        self.assertIs(told[0], point in holds(behind, sentence))
        self.assertIs(lets(behind, sentence, point, told[0], told[1]), True, (world, sentence, point, paper, change))
        self.assertIs(slow.lets(point, told[0], told[1]), True)
        rows = {row[:3]: row for row in told[1]}
        for claim in rows:
            if claim in kept:
                self.assertEqual(rows[claim], kept[claim])
        come = part_of_paper(slow, told[1], (0, point, told[0]))
        self.assertEqual(len(come), len(told[1]))
        most = max(len(str(rank)) for row in paper for rank in row[3] + (0,))
        self.assertTrue(all(len(str(rank)) <= max(most + 2, 4) for row in told[1] for rank in row[3]))
        return told, False, len(set(kept) & set(rows))

    def test_small_ones(self):
        truth, paper = answered(WORLD, A, 1)
        self.assertEqual(mended(WORLD, A, 1, True, paper, ("fact", "a", 0)), (True, paper))
        self.assertEqual(mended(WORLD, A, 1, True, paper, ("fact", "a", 1)), (False, ((0, 1, False, (), None),)))

    def test_no_change(self):
        truth, paper = answered(WORLD, A, 1)
        for change in (("fact", "a", 9), None, ("split", "ann", (1, 0)), ["fact", "a", 1]):
            with self.assertRaises(NoChange):
                mended(WORLD, A, 1, truth, paper, change)

    def test_kept_rows_stay(self):
        # Two halves: what is said of b turns, what is said of a leans on nothing that turned.
        sentence = ("and", cored(("sometime", A)), ("not", B))
        world = ((("a", (3,)), ("b", ())), ((1,), (2,), (3,), ()), ())
        paper = answered(world, sentence, 0)[1]
        raised = greater_ranks(Slow(world, sentence), paper, 7, 10 ** 49)
        told, same, kept = self.mend(world, ("or", sentence, B), 0, *answered(world, ("or", sentence, B), 0), ("fact", "b", 0))
        self.assertFalse(same)
        told, same, kept = self.mend(world, sentence, 0, True, raised, ("fact", "b", 1))
        self.assertTrue(same)
        told, same, kept = self.mend(world, sentence, 0, True, raised, ("fact", "a", 3))
        self.assertEqual((told[0], same), (False, False))

    def test_fresh_rows_lean_on_kept_ones(self):
        # A longer way has to be gone: what was known from 2 on is kept, with its great ranks.
        world = ((("a", (4,)),), ((1, 2), (2,), (3,), (4,), ()), ())
        sentence = cored(("sometime", A))
        slow = Slow(world, sentence)
        paper = answered(world, sentence, 0)[1]
        for factor, more in ((1, 0), (1, 5), (1000, 10 ** 49)):
            raised = greater_ranks(slow, paper, factor, more)
            told, same, kept = self.mend(world, sentence, 0, True, raised, ("move", 0, 2))
            self.assertEqual((told[0], same), (True, False))
            self.assertGreater(kept, 5)

    def test_random_mending(self):
        chance = random.Random(64)
        found = {"same": 0, "kept": 0, "turned": 0, "fresh": 0}
        for count in range(900):
            world = chance.choice((random_world, winding_world))(chance, chance.choice((1, 3, 5)))
            sentence = chance.choice((lambda: random_sentence(chance, 10), lambda: roomy_sentence(chance, 5),
                                      lambda: winding_sentence(chance)))()
            point = chance.randrange(len(world[1]))
            slow = Slow(world, sentence)
            truth = point in holds(world, sentence)
            paper = answered(world, sentence, point)[1]
            if chance.random() < 0.5:
                paper = slow.other_paper(chance)
            elif chance.random() < 0.5:
                paper = greater_ranks(slow, paper, chance.choice((1, 10 ** 20)), chance.choice((0, 3, 10 ** 49)))
            self.assertTrue(lets(world, sentence, point, truth, paper))
            for times in range(4):
                change = random_change(chance, world)
                told, same, kept = self.mend(world, sentence, point, truth, paper, change)
                found["same" if same else "fresh"] += 1
                found["kept"] += not same and kept > 0
                found["turned"] += told[0] != truth
                if max([rank for row in told[1] for rank in row[3]], default=0) > 10 ** 46:
                    break
                world, truth, paper = changed(world, change), told[0], told[1]
        self.assertGreater(min(found.values()), 60)

    def test_great_worlds(self):
        chance = random.Random(65)
        for count in range(25):
            world, sentence = random_world(chance, 24), random_sentence(chance, 40)
            truth, paper = answered(world, sentence, 3)
            change = random_change(chance, world)
            told = mended(world, sentence, 3, truth, paper, change)
            self.assertTrue(lets(changed(world, change), sentence, 3, told[0], told[1]))

    def test_deep_papers(self):
        world = ((("a", (23,)),), tuple((point + 1,) if point < 23 else () for point in range(24)), ())
        sentence = ("and", cored(("sometime", A)), nested(lambda s: ("some", ("on",), s), ("not", A), 20))
        truth, paper = answered(world, sentence, 0)
        self.mend(world, sentence, 0, truth, paper, ("fact", "a", 23))
        self.mend(world, sentence, 0, truth, paper, ("move", 20, 21))
        self.assertEqual(random_parts(random.Random(1), 1), ((0,),))


if __name__ == "__main__":
    unittest.main()
