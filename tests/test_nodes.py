"""The things of a sentence by their numbers: points [3], [5] (signs), [13] and [14]."""

import random
import unittest

from samples import BINDERS, nested, random_sentence, slow_walk
from worldsay.nodes import binder_of, binders_at, parts_at, rooms_at, sign_at, things_of

A, B = ("fact", "a"), ("fact", "b")
X, Y = ("wish", "x"), ("wish", "y")
ANN = ("ann",)
TOLD = (things_of, parts_at, binders_at, rooms_at)

# 0 least, 1 and, 2 or, 3 fact, 4 wish x, 5 not, 6 most, 7 and, 8 wish y, 9 not, 10 wish x
RINGS = ("least", "x", ("and", ("or", A, X), ("not", ("most", "y", ("and", Y, ("not", X))))))

# 0 most, 1 show, 2 show (in the s), 3 fact, 4 fact, 5 not (in the t), 6 show, 7 least, 8 wish, 9 or, 10 fact, 11 not, 12 fact
ROOMS = ("most", "x", ("show", ANN, ("show", ANN, A, B),
                       ("not", ("show", ("bob", "cid"), ("least", "y", Y), ("or", A, ("not", B))))))


class NumbersTest(unittest.TestCase):
    def test_a_fact(self):
        self.assertEqual([told(A) for told in TOLD], [[A], [()], [()], [()]])

    def test_things(self):
        self.assertEqual(things_of(RINGS), [
            RINGS, RINGS[2], ("or", A, X), A, X, RINGS[2][2], RINGS[2][2][1], ("and", Y, ("not", X)), Y, ("not", X), X])

    def test_things_of_each_head(self):
        for sentence, parts in ((("not", A), [A]), (("and", A, B), [A, B]), (("or", B, A), [B, A]),
                                (("some", ("on",), A), [A]), (("every", ("one", ANN), B), [B]),
                                (("least", "x", X), [X]), (("most", "x", A), [A]), (("show", ANN, A, B), [A, B])):
            with self.subTest(sentence=sentence):
                self.assertEqual(things_of(sentence), [sentence] + parts)
                self.assertEqual(parts_at(sentence), [tuple(range(1, len(parts) + 1))] + [()] * len(parts))

    def test_equal_things_are_numbered_each_by_itself(self):
        sentence = ("and", ("or", A, A), ("or", A, A))
        self.assertEqual(things_of(sentence), [sentence, ("or", A, A), A, A, ("or", A, A), A, A])
        self.assertEqual(parts_at(sentence), [(1, 4), (2, 3), (), (), (5, 6), (), ()])

    def test_parts(self):
        self.assertEqual(parts_at(RINGS), [(1,), (2, 5), (3, 4), (), (), (6,), (7,), (8, 9), (), (10,), ()])
        self.assertEqual(parts_at(ROOMS), [(1,), (2, 5), (3, 4), (), (), (6,), (7, 9), (8,), (), (10, 11), (), (12,), ()])

    def test_binders(self):
        self.assertEqual(binders_at(RINGS), [
            (), (0,), (0,), (0,), (0,), (0,), (0,), (0, 6), (0, 6), (0, 6), (0, 6)])

    def test_binders_reach_through_shows(self):
        self.assertEqual(binders_at(ROOMS), [()] + [(0,)] * 7 + [(0, 7)] + [(0,)] * 4)

    def test_binders_side_by_side(self):
        sentence = ("and", ("least", "x", X), ("most", "x", X))
        self.assertEqual(binders_at(sentence), [(), (), (1,), (), (3,)])

    def test_four_binders(self):
        sentence = ("least", "a", ("most", "b", ("least", "c", ("most", "d", ("wish", "b")))))
        self.assertEqual(binders_at(sentence), [(), (0,), (0, 1), (0, 1, 2), (0, 1, 2, 3)])
        self.assertEqual(rooms_at(sentence), [()] * 5)
        self.assertEqual(binder_of(sentence, 4), 1)

    def test_rooms(self):
        self.assertEqual(rooms_at(ROOMS), [
            (), (), (), (), (2,), (1,), (1,), (1,), (1,), (1, 6), (1, 6), (1, 6), (1, 6)])
        self.assertEqual(rooms_at(RINGS), [()] * 11)

    def test_rooms_of_the_s_and_the_t(self):
        self.assertEqual(rooms_at(("show", ANN, A, B)), [(), (), (0,)])
        self.assertEqual(rooms_at(("show", ANN, ("not", A), ("not", B))), [(), (), (), (0,), (0,)])
        self.assertEqual(rooms_at(("show", ANN, A, ("show", ANN, A, ("show", ANN, A, B)))),
                         [(), (), (0,), (0,), (0, 2), (0, 2), (0, 2, 4)])
        self.assertEqual(rooms_at(("show", ANN, ("show", ANN, ("show", ANN, A, B), B), B)),
                         [(), (), (), (), (2,), (1,), (0,)])

    def test_told_are_lists_of_tuples(self):
        for told in TOLD:
            for sentence in (A, RINGS, ROOMS):
                self.assertIs(type(told(sentence)), list)
                self.assertEqual([type(row) for row in told(sentence)], [tuple] * len(told(sentence)))

    def test_told_lists_that_are_changed_and_asked_anew(self):
        for told in TOLD:
            for sentence in (A, RINGS, ROOMS):
                first, again = told(sentence), told(sentence)
                wanted = list(first)
                self.assertIsNot(first, again)
                first.append(())
                first[0] = ("fact", "changed")
                first.reverse()
                self.assertEqual(again, wanted)
                self.assertEqual(told(sentence), wanted)

    def test_random_sentences(self):
        chance = random.Random(15)
        for count in range(400):
            sentence = random_sentence(chance, chance.randint(1, 60))
            rows = slow_walk(sentence)
            parts = [[] for row in rows]
            for number, (thing, chain) in enumerate(rows):
                if chain:
                    parts[chain[-1][0]].append(number)
            with self.subTest(sentence=sentence):
                self.assertEqual(things_of(sentence), [thing for thing, chain in rows])
                self.assertEqual(parts_at(sentence), [tuple(row) for row in parts])
                self.assertEqual(binders_at(sentence), [
                    tuple(number for number, outer, place in chain if outer[0] in BINDERS) for thing, chain in rows])
                self.assertEqual(rooms_at(sentence), [
                    tuple(number for number, outer, place in chain if outer[0] == "show" and place == 1)
                    for thing, chain in rows])

    def test_greater_sentences_than_are_handed_in(self):
        sentence = nested(lambda s: ("and", s, s), ("not", A), 12)
        things = things_of(sentence)
        self.assertEqual(len(things), 2 ** 13 - 1 + 2 ** 12)
        for told in (parts_at, binders_at, rooms_at):
            self.assertEqual(len(told(sentence)), len(things))
        deep = nested(lambda s: ("least", "x", ("not", s)), A, 60)
        self.assertEqual(binders_at(deep)[120], tuple(range(0, 120, 2)))
        self.assertEqual(parts_at(deep), [(number,) for number in range(1, 121)] + [()])


class SignTest(unittest.TestCase):
    def test_binder_of(self):
        self.assertEqual([binder_of(RINGS, number) for number in (4, 8, 10)], [0, 6, 0])
        self.assertEqual(binder_of(ROOMS, 8), 7)
        self.assertEqual(binder_of(("least", "x", X), 1), 0)
        self.assertEqual(binder_of(("most", "x", X), 1), 0)

    def test_binder_of_one_of_two_of_a_name(self):
        sentence = ("and", ("least", "x", X), ("most", "x", ("least", "y", X)))
        self.assertEqual([binder_of(sentence, number) for number in (2, 5)], [1, 3])

    def test_sign_with_nots_between(self):
        for many in range(5):
            sentence = ("least", "x", nested(lambda s: ("not", s), A, many))
            for number in range(1, many + 2):
                for truth in (True, False):
                    # The thing itself doesn't count, though it is a not.
                    turned = (number - 1) % 2 == 1
                    self.assertIs(sign_at(sentence, 0, number, truth), truth != turned)

    def test_nots_outside_the_binder_do_not_count(self):
        sentence = ("not", ("least", "x", ("not", ("most", "y", ("not", A)))))
        self.assertIs(sign_at(sentence, 1, 2, True), True)
        self.assertIs(sign_at(sentence, 1, 3, True), False)
        self.assertIs(sign_at(sentence, 1, 4, True), False)
        self.assertIs(sign_at(sentence, 3, 4, True), True)
        self.assertIs(sign_at(sentence, 1, 5, True), True)
        self.assertIs(sign_at(sentence, 3, 5, True), False)

    def test_nots_beside_the_thing_do_not_count(self):
        sentence = ("least", "x", ("and", ("not", A), ("or", ("not", ("not", A)), ("and", X, ("not", B)))))
        for number in (1, 2, 4, 5, 8, 9, 10):
            self.assertIs(sign_at(sentence, 0, number, True), True)
            self.assertIs(sign_at(sentence, 0, number, False), False)
        for number in (3, 6, 11):
            self.assertIs(sign_at(sentence, 0, number, True), False)
            self.assertIs(sign_at(sentence, 0, number, False), True)
        self.assertIs(sign_at(sentence, 0, 7, True), True)

    def test_signs_in_rings(self):
        for number, wanted in ((1, True), (4, True), (5, True), (6, False), (7, False), (8, False), (9, False), (10, True)):
            self.assertIs(sign_at(RINGS, 0, number, True), wanted)
            self.assertIs(sign_at(RINGS, 0, number, False), not wanted)
        for number, wanted in ((7, True), (8, True), (9, True), (10, False)):
            self.assertIs(sign_at(RINGS, 6, number, True), wanted)
            self.assertIs(sign_at(RINGS, 6, number, False), not wanted)

    def test_nots_count_through_shows(self):
        for number, wanted in ((1, True), (2, True), (4, True), (5, True), (6, False), (8, False), (10, False),
                               (11, False), (12, True)):
            self.assertIs(sign_at(ROOMS, 0, number, True), wanted)
            self.assertIs(sign_at(ROOMS, 0, number, False), not wanted)

    def test_random_sentences(self):
        chance = random.Random(16)
        wishes = signs = 0
        for count in range(300):
            sentence = random_sentence(chance, chance.randint(2, 60))
            for number, (thing, chain) in enumerate(slow_walk(sentence)):
                rounds = [(outer_number, outer) for outer_number, outer, place in chain if outer[0] in BINDERS]
                if thing[0] == "wish":
                    wishes += 1
                    own = [outer_number for outer_number, outer in rounds if outer[1] == thing[1]]
                    self.assertEqual([binder_of(sentence, number)], own)
                    self.assertIs(sign_at(sentence, own[0], number, True), True)
                for binder, outer in rounds:
                    signs += 1
                    nots = [row for row in chain if row[0] > binder and row[1][0] == "not"]
                    truth = chance.choice((True, False))
                    self.assertIs(sign_at(sentence, binder, number, truth), truth == (len(nots) % 2 == 0))
        self.assertGreater(wishes, 300)
        self.assertGreater(signs, 3000)


if __name__ == "__main__":
    unittest.main()
