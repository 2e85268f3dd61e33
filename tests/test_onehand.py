"""Sentences of one hand: point [57]."""

import random
import unittest

from samples import nested, random_parts, random_world
from worldsay.judging import holds
from worldsay.onehand import same_said
from worldsay.worlds import is_world

A, B, C = ("fact", "a"), ("fact", "b"), ("fact", "c")
ONE = ("one", ("ann",))


def knows(s):
    return ("every", ONE, s)


def may(s):
    return ("some", ONE, s)


def show(s, t):
    return ("show", ("ann",), s, t)


def one_handed(chance, size, shows=0):
    if size <= 1:
        return chance.choice((A, B, C))
    head = chance.choice(("not", "some", "every") + ("and", "or", "show") * 2 * (size > 2))
    if head == "not":
        return (head, one_handed(chance, size - 1, shows))
    if head in ("some", "every"):
        return (head, ONE, one_handed(chance, size - 1, shows))
    first = chance.randint(1, size - 2)
    shows += head == "show"
    parts = (one_handed(chance, first, shows), one_handed(chance, size - 1 - first, shows))
    if head == "show" and shows <= 3:
        return (head, ("ann",)) + parts
    return (chance.choice(("and", "or")),) + parts


class SameSaidTest(unittest.TestCase):
    def look(self, one, other):
        told = same_said(one, other)
        if told == ("same",):
            return True
        self.assertEqual((len(told), told[0]), (3, "apart"))
        world, point = told[1:]
        self.assertTrue(is_world(world))
        self.assertLessEqual(len(world[1]), 8)
        self.assertIn(point, range(len(world[1])))
        self.assertNotEqual(point in holds(world, one), point in holds(world, other))
        return False

    def test_same(self):
        for one, other in ((A, A), (A, ("not", ("not", A))), (("and", A, B), ("and", B, A)), (knows(A), ("not", may(("not", A)))),
                           (knows(A), knows(knows(A))), (may(A), knows(may(A))), (knows(A), ("and", A, knows(A))),
                           (may(knows(A)), knows(A)), (knows(("and", A, B)), ("and", knows(A), knows(B))),
                           (show(A, B), B), (show(A, knows(B)), ("or", ("and", A, knows(("or", ("not", A), B))),
                                                                ("and", ("not", A), knows(("or", A, B))))),
                           (show(A, knows(A)), A), (show(knows(A), may(B)), may(B)), (("or", A, ("not", A)), ("or", C, ("not", C))),
                           (show(A, show(B, knows(C))), show(B, show(A, knows(C)))), (show(A, may(C)), show(("not", A), may(C)))):
            with self.subTest(one=one, other=other):
                self.assertTrue(self.look(one, other))
                self.assertTrue(self.look(other, one))

    def test_apart(self):
        for one, other in ((A, B), (A, ("not", A)), (knows(A), A), (may(A), A), (knows(A), may(A)), (show(A, knows(B)), knows(B)),
                           (knows(("or", A, B)), ("or", knows(A), knows(B))), (may(("and", A, B)), ("and", may(A), may(B))),
                           (show(A, knows(A)), knows(A)), (A, ("and", A, C)), (show(("and", A, may(B)), knows(A)), A)):
            with self.subTest(one=one, other=other):
                self.assertFalse(self.look(one, other))
                self.assertFalse(self.look(other, one))

    def test_all_eight_kinds_are_wanted(self):
        # That points of all kinds are there parts this from what never holds.
        kinds = []
        for bits in range(8):
            one = [fact if bits >> place & 1 else ("not", fact) for place, fact in enumerate((A, B, C))]
            kinds.append(may(("and", one[0], ("and", one[1], one[2]))))
        there = kinds[0]
        for kind in kinds[1:]:
            there = ("and", there, kind)
        self.assertLessEqual(len(str(there).split("'fact'")) - 1, 24)
        self.assertFalse(self.look(there, ("and", A, ("not", A))))
        self.assertEqual(len(same_said(there, ("and", A, ("not", A)))[1][1]), 8)

    def test_one_kind_alone_is_wanted(self):
        # Each of these is parted from what never holds by a world of one kind of points alone.
        never = ("and", A, ("not", A))
        for bits in range(8):
            one = [fact if bits >> place & 1 else ("not", fact) for place, fact in enumerate((A, B, C))]
            alone = knows(("and", one[0], ("and", one[1], one[2])))
            self.assertFalse(self.look(alone, never))
            self.assertEqual(len(same_said(alone, never)[1][1]), 1)

    def test_no_hand(self):
        self.assertTrue(self.look(("and", A, B), ("not", ("or", ("not", A), ("not", B)))))
        self.assertFalse(self.look(("and", A, B), ("or", A, B)))

    def test_another_hands_name(self):
        self.assertFalse(self.look(("every", ("one", ("zed",)), A), A))
        self.assertFalse(self.look(A, ("show", ("zed",), A, ("every", ("one", ("zed",)), B))))

    def test_deep_and_wide(self):
        self.assertTrue(self.look(nested(knows, A, 59), knows(A)))
        self.assertTrue(self.look(nested(lambda s: ("not", ("not", s)), B, 29), B))

    def test_random_sentences(self):
        chance = random.Random(84)
        found = {True: 0, False: 0}
        for count in range(120):
            one = one_handed(chance, chance.randint(1, 9))
            other = chance.choice((one_handed(chance, chance.randint(1, 9)), ("not", ("not", one)), ("and", one, ("or", one, B)),
                                   ("or", one, ("and", one_handed(chance, 3), ("not", one)))))
            same = self.look(one, other)
            found[same] += 1
            if same:
                # In no world they are parted.
                for times in range(30):
                    world = random_world(chance, chance.randint(1, 9))
                    world = (world[0], world[1], (("ann", random_parts(chance, len(world[1]))),))
                    self.assertEqual(holds(world, one), holds(world, other))
        self.assertGreater(min(found.values()), 20)


if __name__ == "__main__":
    unittest.main()
