"""Hard binders, and what rows lean on: points [5], [6], [35] and [36]."""

import random
import unittest

from samples import random_sentence, random_world, roomy_sentence, slow_walk
from slowpapers import Slow
from worldsay.claims import hard_at, leans
from worldsay.nodes import binders_at

A, B = ("fact", "a"), ("fact", "b")
X, Y = ("wish", "x"), ("wish", "y")
ANN, BOB, BOTH = ("ann",), ("bob",), ("ann", "bob")
WORLD = ((("a", (1, 2)), ("b", (3,))), ((1, 2), (), (3,), (3,)),
         (("ann", ((0, 1, 2), (3,))), ("bob", ((0,), (1, 2), (3,)))))


class HardTest(unittest.TestCase):
    def test_least_and_most(self):
        for truth in (True, False):
            self.assertEqual(hard_at(A, 0, truth), ())
            self.assertEqual(hard_at(("least", "x", X), 0, truth), ())
            self.assertEqual(hard_at(("least", "x", X), 1, truth), (truth,))
            self.assertEqual(hard_at(("most", "x", X), 1, truth), (not truth,))
            self.assertEqual(hard_at(("least", "x", ("most", "y", Y)), 2, truth), (truth, not truth))

    def test_through_nots(self):
        sentence = ("least", "x", ("not", ("most", "y", ("and", Y, ("not", X)))))
        # 0 least, 1 not, 2 most, 3 and, 4 wish y, 5 not, 6 wish x
        for number, wanted in ((1, (True,)), (2, (False,)), (3, (False, False)), (4, (False, False)), (5, (False, False)),
                               (6, (True, True))):
            self.assertEqual(hard_at(sentence, number, True), wanted)
            self.assertEqual(hard_at(sentence, number, False), tuple(not hard for hard in wanted))

    def test_through_shows(self):
        sentence = ("least", "x", ("not", ("show", ANN, A, ("not", ("most", "y", Y)))))
        # 0 least, 1 not, 2 show, 3 a, 4 not, 5 most, 6 wish
        for number, wanted in ((1, (True,)), (2, (False,)), (3, (False,)), (4, (False,)), (5, (True,)), (6, (True, False))):
            self.assertEqual(hard_at(sentence, number, True), wanted)

    def test_random_sentences(self):
        chance = random.Random(40)
        for count in range(200):
            sentence = random_sentence(chance, chance.randint(2, 60))
            slow = Slow(WORLD, sentence)
            for number in range(len(slow_walk(sentence))):
                for truth in (True, False):
                    told = hard_at(sentence, number, truth)
                    self.assertEqual(told, slow.hard(number, truth))
                    self.assertIs(type(told), tuple)
                    self.assertEqual(len(told), len(binders_at(sentence)[number]))


class LeansTest(unittest.TestCase):
    def leaning(self, sentence, row, wanted, others=(), world=WORLD):
        with self.subTest(sentence=sentence, row=row):
            told = leans(world, sentence, others + (row,), row)
            self.assertEqual(told, wanted)
            self.assertIn(type(told), (list, type(None)))

    def test_facts(self):
        for point in range(4):
            for truth in (True, False):
                self.leaning(A, (0, point, truth, (), None), [] if truth == (point in (1, 2)) else None)
                self.leaning(A, (0, point, truth, (), 0), None)
                self.leaning(("fact", "untold"), (0, point, truth, (), None), None if truth else [])

    def test_things_of_one_part(self):
        for truth in (True, False):
            self.leaning(("not", A), (0, 1, truth, (), None), [(1, 1, not truth)])
            self.leaning(("least", "x", X), (0, 1, truth, (), None), [(1, 1, truth)])
            self.leaning(("most", "x", X), (0, 1, truth, (), None), [(1, 1, truth)])
            self.leaning(("show", ANN, ("not", A), B), (0, 1, truth, (), None), [(3, 1, truth)])
            self.leaning(("least", "x", ("not", ("not", X))), (3, 2, truth, (0,), None), [(1, 2, truth)])
            for choice in (0, 1, -1, 10 ** 59):
                self.leaning(("not", A), (0, 1, truth, (), choice), None)
                self.leaning(("least", "x", X), (0, 1, truth, (), choice), None)
                self.leaning(("show", ANN, A, B), (0, 1, truth, (), choice), None)
                self.leaning(("least", "x", X), (1, 1, truth, (0,), choice), None)

    def test_joints(self):
        for head in ("and", "or"):
            sentence = (head, ("not", A), B)
            all_of = head == "and"
            self.leaning(sentence, (0, 2, all_of, (), None), [(1, 2, all_of), (3, 2, all_of)])
            self.leaning(sentence, (0, 2, not all_of, (), 1), [(1, 2, not all_of)])
            self.leaning(sentence, (0, 2, not all_of, (), 3), [(3, 2, not all_of)])
            for choice in (0, 1, 2, 3):
                self.leaning(sentence, (0, 2, all_of, (), choice), None)
            for choice in (None, 0, 2, 4, -1, 10 ** 59):
                self.leaning(sentence, (0, 2, not all_of, (), choice), None)

    def test_steps(self):
        for head in ("every", "some"):
            all_of = head == "every"
            for step, point, led in ((("on",), 0, (1, 2)), (("on",), 1, ()), (("back",), 3, (2, 3)), (("back",), 0, ()),
                                     (("one", ANN), 1, (0, 1, 2)), (("one", BOB), 1, (1, 2)), (("one", BOTH), 1, (0, 1, 2)),
                                     (("pool", BOTH), 1, (1, 2)), (("pool", BOTH), 0, (0,)), (("one", ("eve",)), 1, (1,)),
                                     (("pool", ("ann", "eve")), 1, (1,)), (("one", ("ann", "eve")), 3, (3,))):
                sentence = (head, step, A)
                self.leaning(sentence, (0, point, all_of, (), None), [(1, other, all_of) for other in led])
                for choice in (0, 1, 2, 3):
                    self.leaning(sentence, (0, point, all_of, (), choice), None)
                for choice in (None, -1, 0, 1, 2, 3, 4, 10 ** 59):
                    self.leaning(sentence, (0, point, not all_of, (), choice),
                                 [(1, choice, not all_of)] if choice in led else None)

    def test_shown_apart_and_joined(self):
        # 0 show, 1 a, 2 every, 3 b: of the room's s there are rows at some points alone.
        sentence = ("show", ANN, A, ("every", ("one", ANN), B))
        rows = ((1, 0, False, (), None), (1, 1, True, (), None), (1, 2, True, (), None))
        self.leaning(sentence, (2, 1, True, (), None), [(3, 0, True), (3, 1, True), (3, 2, True)])
        self.leaning(sentence, (2, 1, True, (), None), [(3, 1, True), (3, 2, True)], rows)
        self.leaning(sentence, (2, 1, True, (), None), [(3, 0, True), (3, 1, True), (3, 2, True)], rows[1:])
        self.leaning(sentence, (2, 1, True, (), None), [(3, 0, True), (3, 1, True), (3, 2, True)], rows[::2])
        self.leaning(sentence, (2, 1, False, (), 0), None, rows)
        self.leaning(sentence, (2, 1, False, (), 1), [(3, 1, False)], rows)
        self.leaning(sentence, (2, 1, False, (), 2), [(3, 2, False)], rows)
        self.leaning(sentence, (2, 1, False, (), 2), None, rows[:2])
        self.leaning(sentence, (2, 1, False, (), 1), [(3, 1, False)])
        # Hands to whom nothing is shown.
        other = ("show", BOB, A, ("every", ("one", ANN), B))
        self.leaning(other, (2, 1, True, (), None), [(3, 0, True), (3, 1, True), (3, 2, True)], rows)
        self.leaning(other, (2, 1, False, (), 0), [(3, 0, False)], rows)
        self.leaning(other, (2, 1, False, (), 0), [(3, 0, False)])

    def test_one_and_pool_of_several_hands(self):
        # Shown to ann alone: by one, bob still joins 1 and 2; by pool, they are apart where she parts them.
        rows = ((1, 1, True, (), None), (1, 2, False, (), None), (1, 0, True, (), None))
        for step, led in ((("one", BOTH), (0, 1, 2)), (("one", ANN), (0, 1)), (("pool", BOTH), (1,))):
            sentence = ("show", ANN, A, ("every", step, B))
            self.leaning(sentence, (2, 1, True, (), None), [(3, point, True) for point in led], rows)
            for choice in range(4):
                self.leaning(sentence, (2, 1, False, (), choice), [(3, choice, False)] if choice in led else None, rows)
        # Without rows nothing is apart; by one, bob to whom nothing is shown joins, by pool both have to.
        sentence = ("show", ANN, A, ("some", ("pool", BOTH), B))
        self.leaning(sentence, (2, 1, True, (), 2), None)
        self.leaning(sentence, (2, 1, False, (), None), [(3, 1, False), (3, 2, False)])
        sentence = ("show", ANN, A, ("some", ("one", BOTH), B))
        self.leaning(sentence, (2, 1, True, (), 2), [(3, 2, True)])
        self.leaning(sentence, (2, 1, True, (), 0), None)

    def test_rooms_of_several_shows(self):
        # 0 show, 1 a, 2 show, 3 b, 4 every, 5 a
        sentence = ("show", ANN, A, ("show", BOTH, B, ("every", ("one", ANN), A)))
        rows = ((1, 1, True, (), None), (1, 2, True, (), None), (3, 1, True, (), None))
        self.leaning(sentence, (4, 1, False, (), 2), None, rows)
        self.leaning(sentence, (4, 1, False, (), 2), [(5, 2, False)], rows + ((3, 2, True, (), None),))
        self.leaning(sentence, (4, 1, False, (), 2), None, rows + ((3, 2, False, (), None),))
        self.leaning(sentence, (4, 1, True, (), None), [(5, 0, True), (5, 1, True)], rows + ((3, 2, False, (), None),))

    def test_what_is_shown_does_not_stand_in_its_own_room(self):
        sentence = ("show", ANN, ("every", ("one", ANN), A), B)
        rows = ((1, 0, True, (), None), (1, 2, False, (), None))
        self.leaning(sentence, (1, 1, True, (), None), [(2, 0, True), (2, 1, True), (2, 2, True)], rows)
        self.leaning(sentence, (1, 0, False, (), 2), [(2, 2, False)], rows)

    def test_random_rows(self):
        chance = random.Random(41)
        found = {"bad": 0, "good": 0, "apart": 0, "room": 0}
        for count in range(500):
            world = random_world(chance, chance.randint(1, 5))
            sentence = chance.choice((random_sentence, roomy_sentence))(chance, chance.choice((4, 10)))
            slow = Slow(world, sentence)
            rows = {}
            for times in range(chance.choice((5, 60, 200))):
                number, point, truth = chance.randrange(len(slow.things)), chance.choice(slow.points), chance.random() < 0.5
                choices = [None] + slow.parts[number] + list(slow.points) + [-1, 99]
                rows[number, point, truth] = (number, point, truth, (0,) * len(slow.binders[number]), chance.choice(choices))
            paper = tuple(rows.values())
            for row in paper:
                wanted = slow.leans(rows, row)
                found["bad" if wanted is None else "good"] += 1
                found["room"] += bool(slow.rooms[row[0]]) and slow.things[row[0]][0] in ("some", "every") and wanted is not None
                found["apart"] += wanted is not None and wanted != slow.leans({}, row)
                self.assertEqual(leans(world, sentence, paper, row), wanted, (world, sentence, paper, row))
        self.assertGreater(min(found.values()), 40)


if __name__ == "__main__":
    unittest.main()
