"""Hands, steps and sentences: points [3] and [12]."""

import random
import unittest
from copy import deepcopy

from samples import (JUNK, loose_sentence, nested, places_in, random_sentence, replaced, slow_hands, slow_sentence,
                     slow_step)
from worldsay.sentences import is_hands, is_sentence, is_step

A = ("fact", "a")
X = ("wish", "x")
ANN = ("ann",)


def not_of(s):
    return ("not", s)


def in_s(s):
    return ("show", ANN, s, A)


def in_t(s):
    return ("show", ANN, A, s)


def binders(names, inner, head="least"):
    for name in reversed(names):
        inner = (head, name, inner)
    return inner


def wide(many):
    """A sentence of so many things, an odd number, and no deeper than need be."""
    if many == 1:
        return A
    first = (many - 1) // 2
    first += first % 2 == 0
    return ("and", wide(first), wide(many - 1 - first))


class HandsTest(unittest.TestCase):
    def test_hands(self):
        for thing in (ANN, ("a",), ("a", "b"), ("a", "aa"), ("ann", "bob", "cid"), ("a", "b", "c", "d"), ("abcdefgh",)):
            with self.subTest(thing=thing):
                self.assertIs(is_hands(thing), True)

    def test_how_many(self):
        for many in range(8):
            self.assertIs(is_hands(tuple("abcdefgh"[:many])), 1 <= many <= 4)

    def test_hands_that_do_not_rise(self):
        for thing in (("b", "a"), ("a", "a"), ("a", "c", "b"), ("b", "a", "c"), ("a", "b", "c", "c"), ("aa", "a"),
                      ("a", "b", "a")):
            with self.subTest(thing=thing):
                self.assertIs(is_hands(thing), False)

    def test_things_that_are_none(self):
        for thing in (*JUNK, "ann", "a", ["a"], ["a", "b"], {"a": "b"}, ("a", "B"), ("a", ""), ("a", None), ("a", 1),
                      (("a",),), ("a", ("b",)), (["a"],), ({"a": 1},), ("abcdefghi",), ("A",), (True,), ("a1",)):
            if thing not in (("fact",), ("one",)):
                with self.subTest(thing=thing):
                    self.assertIs(is_hands(thing), False)


class StepTest(unittest.TestCase):
    def test_steps(self):
        for thing in (("on",), ("back",), ("one", ANN), ("pool", ANN), ("one", ("a", "b", "c", "d")),
                      ("pool", ("a", "b", "c", "d"))):
            with self.subTest(thing=thing):
                self.assertIs(is_step(thing), True)

    def test_things_that_are_none(self):
        for thing in (*JUNK, "on", "back", "one", ["on"], ["back"], ("On",), ("off",), ("on", "on"), ("on", ANN),
                      ("back", ANN), ("on", None), ("one",), ("pool",), ("one", "ann"), ("one", ["ann"]), ("one", ()),
                      ("pool", ()), ("one", ANN, ANN), ("pool", ANN, ()), ("all", ANN), ("one", ("b", "a")),
                      ("pool", ("a", "a")), ("one", ("a", "b", "c", "d", "e")), ("pool", ("a", "b", "c", "d", "e")),
                      ["one", ANN], (["one"], ANN), (["on"],), ({},), ({"on": 1},), ({}, ANN), (("on",),), (None,),
                      (True,), (0, ANN), {"one": ANN}, {"on": ()}, (ANN, "one"), ("one", ("A",))):
            with self.subTest(thing=thing):
                self.assertIs(is_step(thing), False)


class SentenceTest(unittest.TestCase):
    def yes(self, thing):
        with self.subTest(thing=thing):
            self.assertIs(is_sentence(thing), True)

    def no(self, thing):
        with self.subTest(thing=thing):
            self.assertIs(is_sentence(thing), False)

    def test_sentences(self):
        for thing in (A, not_of(A), ("and", A, A), ("or", A, not_of(A)), ("some", ("on",), A), ("every", ("back",), A),
                      ("some", ("one", ANN), A), ("every", ("pool", ("ann", "bob")), A), ("least", "x", A),
                      ("most", "x", A), ("least", "x", X), ("most", "x", X), ("show", ANN, A, A),
                      ("show", ("a", "b", "c", "d"), A, A), ("fact", "abcdefgh"), ("least", "fact", ("wish", "fact")),
                      ("most", "x", ("and", A, ("every", ("one", ANN), X)))):
            self.yes(thing)

    def test_names_of_unlike_sorts_may_be_alike(self):
        self.yes(("least", "x", ("and", ("fact", "x"), ("some", ("one", ("x",)), X))))

    def test_things_that_are_none(self):
        for thing in JUNK:
            self.no(thing)
        for thing in ("not", ["not", A], list(A), ("fact", ""), ("fact", "A"), ("fact", "abcdefghi"), ("fact", 1),
                      ("not",), ("not", A, A), ("not", "a"), ("and", A), ("and", A, A, A), ("or", A), ("or", A, A, A),
                      ("and", A, list(A)), ("some", A), ("some", ("on",)), ("some", ("on",), A, A), ("some", "on", A),
                      ("every", ("one", ()), A), ("every", ["on"], A), ("least", "x"), ("least", A), ("least", "X", A),
                      ("least", "x", A, A), ("most", ("x",), A), ("most", None, A), ("show", ANN, A), ("show", A, A),
                      ("show", ANN, A, A, A), ("show", "ann", A, A), ("show", ["ann"], A, A), ("show", (), A, A),
                      ("show", ("b", "a"), A, A), ("show", ("a", "b", "c", "d", "e"), A, A), ("xor", A, A),
                      ("Fact", "a"), ("fact ", "a"), ("knows", "ann", A), (A,), (A, A), {"and": (A, A)}, ("on",)):
            self.no(thing)

    def test_heads_that_are_no_texts(self):
        for head in (["and"], [], {}, {"and": 1}, ("and",), (), None, True, False, 0, 1):
            self.no((head, A, A))
            self.no((head,))
            self.no(("not", (head, A, A)))
            self.no(("and", A, (head, A)))

    def test_sixty_and_more_things(self):
        for many in (1, 59, 60, 61, 62, 100):
            self.assertIs(is_sentence(nested(not_of, A, many - 1)), many <= 60)
            self.assertIs(is_sentence(nested(lambda s: ("some", ("on",), s), A, many - 1)), many <= 60)
        for many in (59, 61, 101):
            self.assertIs(is_sentence(wide(many)), many <= 60)
            self.assertIs(is_sentence(nested(lambda s: ("and", A, s), A, many // 2)), many <= 60)
            self.assertIs(is_sentence(nested(lambda s: ("or", s, A), A, many // 2)), many <= 60)
        self.yes(("not", wide(59)))
        self.no(("not", ("not", wide(59))))
        self.yes(("show", ANN, wide(29), ("not", wide(29))))
        self.no(("show", ANN, wide(29), wide(31)))
        self.yes(("least", "x", wide(59)))
        self.no(("least", "x", ("not", wide(59))))

    def test_things_without_measure_are_left_at_once(self):
        self.no(nested(lambda s: ("and", s, s), A, 99))
        self.no(nested(lambda s: ("or", s, s), A, 6))
        self.yes(nested(lambda s: ("or", s, s), A, 4))

    def test_binders_round_one_another(self):
        for head in ("least", "most"):
            for many in range(1, 7):
                self.assertIs(is_sentence(binders("abcdef"[:many], A, head)), many <= 4)
                self.assertIs(is_sentence(binders("abcdef"[:many], ("wish", "a"), head)), many <= 4)
                self.assertIs(is_sentence(binders("ab", binders("cdef"[:many], A, head), "most")), many <= 2)

    def test_binders_side_by_side(self):
        four = binders("abcd", A)
        self.yes(("and", four, ("or", four, four)))
        self.yes(("least", "a", ("and", binders("bcd", A), binders("bcd", ("wish", "a")))))
        self.no(("least", "a", ("and", binders("bcd", A), binders("bcde", A))))
        self.yes(("and", ("least", "x", X), ("most", "x", X)))

    def test_binders_count_through_shows(self):
        for wrap in (in_s, in_t):
            self.yes(binders("ab", wrap(binders("cd", A))))
            self.no(binders("ab", wrap(binders("cde", A))))
            self.no(binders("abcd", wrap(binders("e", A))))

    def test_shows_round_one_another(self):
        for many in range(1, 7):
            for places in range(2 ** many):
                thing = A
                for count in range(many):
                    thing = in_s(thing) if places >> count & 1 else in_t(thing)
                self.assertIs(is_sentence(thing), many <= 3)

    def test_shows_round_one_another_with_things_between(self):
        for wrap in (lambda s: not_of(in_s(s)), lambda s: ("least", "x", in_t(s)) if s == A else in_t(("and", s, A))):
            self.yes(nested(wrap, A, 3))
            self.no(nested(wrap, A, 4))

    def test_shows_side_by_side(self):
        three = nested(in_t, A, 3)
        self.yes(("and", three, three))
        self.yes(("show", ANN, nested(in_s, A, 2), nested(in_t, A, 2)))
        self.no(("show", ANN, three, A))
        self.no(("show", ANN, A, three))
        self.no(("show", ANN, nested(in_s, A, 2), three))

    def test_a_binder_within_one_of_its_own_name(self):
        for outer in ("least", "most"):
            for inner in ("least", "most"):
                self.no((outer, "x", (inner, "x", A)))
                self.no((outer, "x", (inner, "x", X)))
                self.no((outer, "x", not_of((inner, "x", A))))
                self.no((outer, "x", in_s((inner, "x", X))))
                self.no((outer, "x", in_t((inner, "x", X))))
                self.no((outer, "x", (inner, "y", ("or", A, (outer, "x", A)))))
                self.yes((outer, "x", (inner, "y", A)))

    def test_a_wish_without_a_binder(self):
        for thing in (X, not_of(X), ("and", A, X), ("least", "y", X), ("and", ("least", "x", A), X), ("some", ("on",), X),
                      ("show", ANN, ("least", "x", A), X), ("and", X, ("least", "x", X)), ("least", "xx", X)):
            self.no(thing)

    def test_a_wish_behind_nots(self):
        for many in range(6):
            self.assertIs(is_sentence(("least", "x", nested(not_of, X, many))), many % 2 == 0)
            self.assertIs(is_sentence(nested(not_of, ("most", "x", X), many)), True)
            spread = nested(lambda s: ("or", A, ("every", ("on",), not_of(s))), X, many)
            self.assertIs(is_sentence(("most", "x", spread)), many % 2 == 0)

    def test_nots_count_from_a_wishes_own_binder(self):
        self.yes(("least", "x", not_of(("least", "y", ("wish", "y")))))
        self.no(("least", "x", not_of(("least", "y", X))))
        self.yes(("least", "x", not_of(("least", "y", not_of(X)))))
        self.no(("least", "x", not_of(("least", "y", not_of(("wish", "y"))))))
        self.yes(("least", "x", ("not", ("most", "y", ("and", ("wish", "y"), ("not", X))))))
        self.no(("least", "x", ("and", X, not_of(X))))
        self.no(("least", "x", ("and", not_of(X), X)))

    def test_a_wish_with_a_show_between(self):
        for wrap in (in_s, in_t):
            self.no(("least", "x", wrap(X)))
            self.no(("least", "x", wrap(not_of(not_of(X)))))
            self.no(("least", "x", not_of(wrap(not_of(X)))))
            self.no(("least", "x", ("least", "y", wrap(("and", A, X)))))
            self.no(("least", "x", wrap(("least", "y", X))))
            self.yes(("least", "x", wrap(("least", "y", ("wish", "y")))))
            self.yes(wrap(("least", "x", X)))
            self.yes(("least", "x", ("and", wrap(A), X)))

    def test_random_sentences(self):
        chance = random.Random(12)
        for count in range(600):
            thing = random_sentence(chance, chance.randint(1, 60))
            self.yes(thing)

    def test_things_like_sentences(self):
        chance = random.Random(13)
        found = {True: 0, False: 0}
        for count in range(6000):
            thing = loose_sentence(chance, chance.randint(1, 14))
            told = slow_sentence(thing)
            found[told] += 1
            self.assertIs(is_sentence(thing), told, thing)
        self.assertGreater(min(found.values()), 500)

    def test_one_thing_of_a_sentence_replaced(self):
        chance = random.Random(14)
        news = JUNK + (A, X, ("wish", "p"), ("not", ("wish", "q")), "a", "p", ANN, ("b", "a"), ("on",), ("one", ANN))
        found = {True: 0, False: 0}
        for count in range(3000):
            thing = random_sentence(chance, chance.randint(1, 12))
            thing = replaced(thing, chance.choice(places_in(thing)), chance.choice(news))
            told = slow_sentence(thing)
            found[told] += 1
            self.assertIs(is_sentence(thing), told, thing)
            self.assertIs(is_hands(thing), slow_hands(thing), thing)
            self.assertIs(is_step(thing), slow_step(thing), thing)
        self.assertGreater(min(found.values()), 100)

    def test_nothing_handed_in_is_changed(self):
        for thing in (["and", list(A), [1]], ("and", A, ["fact", "a"]), (["x"], {"a": []}), ("one", ["b", "a"])):
            before = deepcopy(thing)
            for asked in (is_hands, is_step, is_sentence):
                self.assertIs(asked(thing), False)
            self.assertEqual(repr(thing), repr(before))


if __name__ == "__main__":
    unittest.main()
