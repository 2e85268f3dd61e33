"""What holds, and worlds of rooms: points [4], [23] and [24]."""

import random
import unittest

from samples import (all_sets, nested, random_sentence, random_world, slow_holds, slow_seen, slow_walk, winding_sentence,
                     winding_world)
from worldsay.judging import holds, room_world
from worldsay.nodes import rooms_at, things_of
from worldsay.worlds import is_world

A, B = ("fact", "a"), ("fact", "b")
X, Y = ("wish", "x"), ("wish", "y")
ANN, BOB, BOTH = ("ann",), ("bob",), ("ann", "bob")

# 0 -> 1 -> 2 -> 3, 3 -> 3; a at 1, 2; ann can't tell 0 from 1, bob 1 from 2.
WORLD = ((("a", (1, 2)), ("b", (3,)), ("none", ())), ((1,), (2,), (3,), (3,)),
         (("ann", ((0, 1), (2,), (3,))), ("bob", ((0,), (1, 2), (3,)))))


def tuple_of(points):
    return tuple(sorted(points))


class HoldsTest(unittest.TestCase):
    def holding(self, sentence, wanted):
        with self.subTest(sentence=sentence):
            self.assertEqual(holds(WORLD, sentence), wanted)
            self.assertEqual(tuple_of(slow_holds(WORLD, sentence)), wanted)

    def test_facts_and_joints(self):
        self.holding(A, (1, 2))
        self.holding(("fact", "none"), ())
        self.holding(("fact", "untold"), ())
        self.holding(("not", ("fact", "untold")), (0, 1, 2, 3))
        self.holding(("not", A), (0, 3))
        self.holding(("and", A, ("not", B)), (1, 2))
        self.holding(("or", A, B), (1, 2, 3))

    def test_steps(self):
        self.holding(("some", ("on",), A), (0, 1))
        self.holding(("every", ("on",), A), (0, 1))
        self.holding(("some", ("back",), A), (2, 3))
        self.holding(("every", ("back",), A), (0, 2))
        self.holding(("every", ("one", ANN), A), (2,))
        self.holding(("some", ("one", ANN), A), (0, 1, 2))
        self.holding(("every", ("one", BOTH), A), (2,))
        self.holding(("every", ("one", BOB), A), (1, 2))
        self.holding(("every", ("pool", BOTH), A), (1, 2))
        self.holding(("some", ("pool", BOTH), ("not", A)), (0, 3))
        self.holding(("every", ("one", ("eve",)), A), (1, 2))
        self.holding(("every", ("pool", ("ann", "eve")), A), (1, 2))
        self.holding(("every", ("one", ("ann", "eve")), A), (2,))

    def test_binders(self):
        self.holding(("least", "x", X), ())
        self.holding(("most", "x", X), (0, 1, 2, 3))
        self.holding(("least", "x", A), (1, 2))
        self.holding(("least", "x", ("or", B, ("some", ("on",), X))), (0, 1, 2, 3))
        self.holding(("least", "x", ("or", ("and", A, ("some", ("on",), B)), ("some", ("on",), X))), (0, 1, 2))
        self.holding(("most", "x", ("and", ("not", B), ("every", ("on",), X))), ())
        self.holding(("most", "x", ("and", ("or", A, B), ("some", ("on",), X))), (1, 2, 3))
        self.holding(("least", "x", ("not", ("not", ("or", A, ("some", ("back",), X))))), (1, 2, 3))

    def test_binders_within_one_another(self):
        # Again and again b, on some way; and at last nothing but b.
        again = ("most", "x", ("least", "y", ("some", ("on",), ("or", ("and", B, X), Y))))
        self.holding(again, (0, 1, 2, 3))
        self.holding(("most", "x", ("least", "y", ("some", ("on",), ("or", ("and", A, X), Y)))), ())
        self.holding(("least", "x", ("most", "y", ("some", ("on",), ("or", ("and", B, Y), X)))), (0, 1, 2, 3))
        self.holding(("least", "x", ("most", "y", ("every", ("on",), ("or", ("and", A, Y), X)))), ())

    def test_shows(self):
        knows = ("every", ("one", ANN), A)
        self.holding(("show", ANN, A, knows), (1, 2))
        self.holding(("show", BOB, A, knows), (2,))
        self.holding(("show", BOTH, A, ("every", ("one", BOTH), A)), (1, 2))
        self.holding(("show", ANN, A, ("some", ("on",), knows)), (0, 1))
        self.holding(("show", ANN, ("show", ANN, A, knows), knows), (1, 2))
        self.holding(("show", ("eve",), A, knows), (2,))
        # What is true and shown need not be so behind it.
        moore = ("and", A, ("not", knows))
        self.holding(moore, (1,))
        self.holding(("and", moore, ("show", ANN, moore, moore)), ())

    def test_one_point(self):
        for moves in ((), (0,)):
            world = ((("a", (0,)),), (moves,), (("ann", ((0,),)),))
            self.assertEqual(holds(world, A), (0,))
            self.assertEqual(holds(world, ("some", ("on",), A)), moves)
            self.assertEqual(holds(world, ("every", ("on",), ("not", A))), () if moves else (0,))
            self.assertEqual(holds(world, ("show", ANN, A, ("every", ("one", ANN), A))), (0,))

    def test_by_all_sets(self):
        chance = random.Random(30)
        for count in range(400):
            world = random_world(chance, chance.randint(1, 3))
            sentence = random_sentence(chance, chance.randint(1, 12))
            wanted = tuple_of(slow_holds(world, sentence, (), None, all_sets(len(world[1]))))
            self.assertEqual(holds(world, sentence), wanted, (world, sentence))

    def test_random_sentences(self):
        chance = random.Random(31)
        for count in range(1200):
            world = random_world(chance, chance.choice((1, 2, 4, 7)))
            sentence = random_sentence(chance, chance.choice((3, 10, 25)))
            held = holds(world, sentence)
            self.assertEqual(held, tuple_of(slow_holds(world, sentence)), (world, sentence))
            self.assertEqual(sorted(held + holds(world, ("not", sentence))), list(range(len(world[1]))))

    def test_random_binders_within_one_another(self):
        chance = random.Random(34)
        partly = 0
        for count in range(2500):
            world, sentence = winding_world(chance, chance.choice((2, 4, 6))), winding_sentence(chance)
            sentence = ("not", sentence) if chance.random() < 0.3 else sentence
            held = holds(world, sentence)
            self.assertEqual(held, tuple_of(slow_holds(world, sentence)), (world, sentence))
            partly += 0 < len(held) < len(world[1])
        self.assertGreater(partly, 600)

    def test_great_worlds(self):
        chance = random.Random(32)
        for count in range(60):
            world = random_world(chance, 24)
            sentence = random_sentence(chance, 59)
            held = holds(world, sentence)
            self.assertEqual(held, tuple_of(slow_holds(world, sentence)))
            self.assertEqual(sorted(held + holds(world, ("not", sentence))), list(range(24)))

    def test_four_binders_in_a_long_world(self):
        many = 24
        world = ((("a", (0,)), ("b", (many - 1,))),
                 tuple(tuple(sorted({max(0, point - 1), min(many - 1, point + 1)})) for point in range(many)), ())
        wishes = [("wish", name) for name in "wxyz"]
        for heads in (("least",) * 4, ("most", "least") * 2, ("least", "most") * 2):
            sentence = ("or", B, ("or", ("and", A, wishes[0]), ("or", ("every", ("on",), wishes[1]),
                                                                ("some", ("on",), ("and", wishes[2], wishes[3])))))
            for head, name in zip(heads, "zyxw"):
                sentence = (head, name, sentence)
            self.assertEqual(holds(world, sentence), tuple_of(slow_holds(world, sentence)))

    def test_greater_sentences_than_are_handed_in_elsewhere(self):
        # At most 20,000 things, at most sixty within one another (54).
        wide = nested(lambda s: ("and", s, ("some", ("on",), s)), ("not", A), 11)
        self.assertGreater(len(things_of(wide)), 6000)
        self.assertEqual(holds(WORLD, wide), tuple_of(slow_holds(WORLD, wide)))
        deep = nested(lambda s: ("not", ("some", ("one", ANN), s)), A, 29)
        deep = ("or", deep, nested(lambda s: ("every", ("back",), s), B, 58))
        self.assertEqual(holds(WORLD, deep), tuple_of(slow_holds(WORLD, deep)))
        great = nested(lambda s: ("or", ("and", s, s), ("not", s)), ("some", ("on",), A), 7)
        self.assertEqual(holds(WORLD, great), tuple_of(slow_holds(WORLD, great)))

    def test_told_anew(self):
        sentence = ("most", "x", ("show", ANN, A, ("every", ("one", ANN), A)))
        self.assertEqual(holds(WORLD, sentence), holds(WORLD, sentence))
        self.assertIs(type(holds(WORLD, sentence)), tuple)


class RoomWorldTest(unittest.TestCase):
    def test_rooms(self):
        sentence = ("show", ANN, A, ("show", BOTH, ("fact", "none"), ("and", B, ("show", BOB, ("some", ("on",), B), A))))
        # 0 show, 1 a, 2 show, 3 none, 4 and, 5 b, 6 show, 7 some, 8 b, 9 a
        for number in (0, 1):
            self.assertEqual(room_world(WORLD, sentence, number), WORLD)
        apart = ((0,), (1,), (2,), (3,))
        for number in (2, 3, 4, 5, 6, 7, 8):
            self.assertEqual(room_world(WORLD, sentence, number), (WORLD[0], WORLD[1], (("ann", apart), WORLD[2][1])))
        self.assertEqual(room_world(WORLD, sentence, 9), (WORLD[0], WORLD[1], (("ann", apart), ("bob", apart))))

    def test_hands_not_told_stay_so(self):
        sentence = ("show", ("eve",), A, B)
        self.assertEqual(room_world(WORLD, sentence, 2), WORLD)
        self.assertEqual(room_world(((), ((),), ()), sentence, 2), ((), ((),), ()))

    def test_random_rooms(self):
        chance = random.Random(33)
        rooms = closed = 0
        for count in range(300):
            world = random_world(chance, chance.randint(1, 6))
            sentence = random_sentence(chance, chance.choice((8, 20)))
            rows = slow_walk(sentence)
            for number, (thing, chain) in enumerate(rows):
                told = room_world(world, sentence, number)
                self.assertTrue(is_world(told))
                self.assertEqual(told[:2], world[:2])
                room = ()
                for outer, show, place in chain:
                    if show[0] == "show" and place == 1:
                        room += ((show[1], slow_holds(world, show[2], room)),)
                rooms += len(rooms_at(sentence)[number]) > 1
                for hand, parts in told[2]:
                    for one in range(len(world[1])):
                        part = [part for part in parts if one in part][0]
                        self.assertEqual(part, tuple(other for other in range(len(world[1]))
                                                     if slow_seen(world, room, hand, one, other)))
                self.assertEqual([pair[0] for pair in told[2]], [pair[0] for pair in world[2]])
                if not self.is_open(rows, number):
                    closed += 1
                    self.assertEqual(holds(told, thing), tuple_of(slow_holds(world, thing, room)))
        self.assertGreater(rooms, 100)
        self.assertGreater(closed, 500)

    def is_open(self, rows, number):
        """Whether a wish stands within a thing whose binder stands round it."""
        for thing, chain in rows:
            places = [outer for outer, around, place in chain]
            if thing[0] == "wish" and (number in places or thing is rows[number][0]):
                own = [outer for outer, around, place in chain if around[0] in ("least", "most") and around[1] == thing[1]]
                if own[-1] < number:
                    return True
        return False


if __name__ == "__main__":
    unittest.main()
