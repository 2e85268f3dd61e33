"""Plain sentences and their cores: points [19] to [22]."""

import random
import unittest
from copy import deepcopy

from samples import (CORES, JUNK, PLAIN_FORMS, nested, places_in, random_plain, random_world, replaced, slow_core, slow_hands,
                     slow_name, ways_of)
from worldsay.errors import TooMany
from worldsay.judging import holds
from worldsay.nodes import binders_at, rooms_at, things_of
from worldsay.plainwords import cored, is_plain
from worldsay.sentences import is_sentence
from worldsay.sentencetexts import read_sentence, shown_sentence

A, B = ("fact", "a"), ("fact", "b")
ANN = ("ann",)


def slow_plain(thing):
    """How many things a plain sentence has, 1000 or more of a thing that is none."""
    if not isinstance(thing, tuple) or not thing or not isinstance(thing[0], str) or thing[0] not in PLAIN_FORMS:
        return 1000
    sorts, many = PLAIN_FORMS[thing[0]], 1
    if len(thing) != 1 + len(sorts):
        return 1000
    for sort, part in zip(sorts, thing[1:]):
        if sort == "s":
            many += slow_plain(part)
        elif not (slow_name if sort == "n" else slow_hands)(part):
            return 1000
    return many


def of_each_word():
    """Each word of a plain sentence, over facts."""
    for head, sorts in PLAIN_FORMS.items():
        taken = {"n": ("ann",), "h": (("ann", "bob"),)}.get(sorts[0], ())
        if head != "fact":
            yield (head,) + taken + (A, B)[:sorts.count("s")]


class IsPlainTest(unittest.TestCase):
    def test_each_word(self):
        self.assertIs(is_plain(A), True)
        for thing in of_each_word():
            with self.subTest(thing=thing):
                self.assertIs(is_plain(thing), True)
                self.assertIs(is_plain(thing + (A,)), False)
                self.assertIs(is_plain(thing[:-1]), False)
                self.assertIs(is_plain(list(thing)), False)
                self.assertIs(is_plain(thing[:-1] + (list(A),)), False)
                self.assertIs(is_plain(thing[:-1] + (("wish", "x"),)), False)

    def test_what_words_take(self):
        for head, sorts in PLAIN_FORMS.items():
            parts = (A, B)[:sorts.count("s")]
            if sorts[0] == "n" and head != "fact":
                for taken, wanted in (("ann", True), ("a", True), ("abcdefghi", False), ("A", False), ("", False),
                                      (("ann",), False), (None, False), (True, False), (1, False), (["ann"], False)):
                    self.assertIs(is_plain((head, taken) + parts), wanted)
            if sorts[0] == "h":
                for taken, wanted in ((ANN, True), (("a", "b", "c", "d"), True), ("ann", False), ((), False), (["ann"], False),
                                      (("b", "a"), False), (("a", "a"), False), (("a", "b", "c", "d", "e"), False)):
                    self.assertIs(is_plain((head, taken) + parts), wanted)

    def test_things_that_are_none(self):
        for thing in JUNK + (("wish", "x"), ("least", "x", A), ("most", "x", A), ("some", ("on",), A), ("every", ("on",), A),
                             ("show", ANN, A, A), ("Knows", "ann", A), ("not", ("least", "x", A)), ("fact", "A"),
                             {"not": A}, ("not", {"fact": "a"}), (["not"], A), ({}, A), ((), A), (None, A), (True, A)):
            with self.subTest(thing=thing):
                self.assertIs(is_plain(thing), False)

    def test_thirty_things(self):
        for many in (1, 29, 30, 31, 32, 90):
            self.assertIs(is_plain(nested(lambda s: ("knows", "ann", s), A, many - 1)), many <= 30)
            self.assertIs(is_plain(nested(lambda s: ("whether", "ann", s), A, many - 1)), many <= 30)
            if many % 2:
                self.assertIs(is_plain(nested(lambda s: ("until", A, s), A, many // 2)), many <= 30)
        self.assertIs(is_plain(nested(lambda s: ("and", s, s), A, 90)), False)

    def test_things_like_plain_sentences(self):
        chance = random.Random(24)
        news = JUNK + (A, ("wish", "a"), "a", "ann", ANN, ("b", "a"), ("not", A), ("least", "x", A))
        found = {True: 0, False: 0}
        for count in range(3000):
            thing = random_plain(chance, chance.choice((3, 8, 34)))
            if chance.random() < 0.7:
                thing = replaced(thing, chance.choice(places_in(thing)), chance.choice(news))
            wanted = slow_plain(thing) <= 30
            found[wanted] += 1
            self.assertIs(is_plain(thing), wanted, thing)
        self.assertGreater(min(found.values()), 500)

    def test_nothing_is_changed(self):
        for thing in (["not", A], ("not", ["fact", "a"]), ({"a": [1]},)):
            before = deepcopy(thing)
            self.assertIs(is_plain(thing), False)
            self.assertEqual(repr(thing), repr(before))


class CoredTest(unittest.TestCase):
    def too_many(self, plain):
        with self.subTest(plain=str(plain)[:200]):
            self.assertIs(is_plain(plain), True)
            with self.assertRaises(TooMany):
                cored(plain)

    def test_cores_of_the_document(self):
        every, wish = ("every", ("on",), ("wish", "a")), ("wish", "a")
        some = ("some", ("on",), wish)
        for plain, core in (
                (A, A), (("not", A), ("not", A)), (("and", A, B), ("and", A, B)), (("or", A, B), ("or", A, B)),
                (("knows", "ann", A), ("every", ("one", ANN), A)), (("may", "ann", A), ("some", ("one", ANN), A)),
                (("whether", "ann", A), ("or", ("every", ("one", ANN), A), ("every", ("one", ANN), ("not", A)))),
                (("all", ("a", "b"), A), ("every", ("one", ("a", "b")), A)),
                (("common", ("a", "b"), A), ("most", "a", ("and", A, ("every", ("one", ("a", "b")), wish)))),
                (("pool", ("a", "b"), A), ("every", ("pool", ("a", "b")), A)),
                (("tell", ANN, A, B), ("and", A, ("show", ANN, A, B))),
                (("told", ANN, A, B), ("or", ("not", A), ("show", ANN, A, B))),
                (("then", A), ("some", ("on",), A)), (("must", A), ("every", ("on",), A)),
                (("before", A), ("some", ("back",), A)),
                (("sometime", A), ("least", "a", ("or", A, some))), (("always", A), ("most", "a", ("and", A, every))),
                (("surely", A), ("least", "a", ("or", A, ("and", some, every)))),
                (("spared", A), ("most", "a", ("and", A, ("or", every, some)))),
                (("until", A, B), ("least", "a", ("or", B, ("and", A, some)))),
                (("till", A, B), ("least", "a", ("or", B, ("and", A, ("and", some, every))))),
                (("once", A), ("least", "a", ("or", A, ("some", ("back",), wish)))),
                (("ever", A), ("most", "a", ("and", A, ("every", ("back",), wish)))),
                (("since", A, B), ("least", "a", ("or", B, ("and", A, ("some", ("back",), wish)))))):
            with self.subTest(plain=plain):
                self.assertEqual(cored(plain), core)

    def test_names_go_by_how_many_stand_round(self):
        plain = ("sometime", ("always", ("once", ("ever", A))))
        self.assertEqual([thing[1] for thing in things_of(cored(plain)) if thing[0] in ("least", "most")], list("abcd"))
        plain = ("and", ("sometime", A), ("until", ("always", A), ("ever", ("surely", A))))
        self.assertEqual([thing[1] for thing in things_of(cored(plain)) if thing[0] in ("least", "most")],
                         ["a", "a", "b", "c", "b"])
        plain = ("sometime", ("tell", ANN, ("always", A), ("not", ("ever", ("tell", ANN, A, ("once", A))))))
        core = cored(plain)
        for number, thing in enumerate(things_of(core)):
            if thing[0] in ("least", "most"):
                self.assertEqual(thing[1], "abcd"[len(binders_at(core)[number])])

    def test_too_many_things(self):
        for many in (1, 29):
            plain = nested(lambda s: ("knows", "ann", s), A, many)
            self.assertEqual(len(things_of(cored(plain))), many + 1)
        three = nested(lambda s: ("whether", "ann", s), A, 3)
        self.assertEqual(len(things_of(cored(three))), 36)
        self.assertEqual(len(things_of(cored(nested(lambda s: ("not", s), three, 24)))), 60)
        self.too_many(nested(lambda s: ("not", s), three, 25))
        for many in (4, 10, 29):
            self.too_many(nested(lambda s: ("whether", "ann", s), A, many))
        self.too_many(nested(lambda s: ("tell", ANN, s, A), A, 4))
        self.too_many(("not", nested(lambda s: ("whether", "ann", ("knows", "ann", s)), ("whether", "ann", A), 4)))

    def test_sixty_and_sixty_one_things(self):
        found = {True: 0, False: 0}
        for wrap in (lambda s: ("surely", s), lambda s: ("spared", s), lambda s: ("till", A, s), lambda s: ("common", ANN, s),
                     lambda s: ("whether", "ann", s), lambda s: ("tell", ANN, A, s), lambda s: ("told", ANN, s, A),
                     lambda s: ("until", s, B), lambda s: ("since", s, B)):
            inner = wrap(wrap(A))
            for many in range(27):
                plain = nested(lambda s: ("not", s), ("and", ("and", inner, inner), inner), many)
                text = slow_core(plain)
                things = sum(text.split(" ").count(head) for head in ("fact", "wish", "not", "and", "or", "some", "every", "least",
                                                                       "most", "show"))
                if slow_plain(plain) <= 30:
                    found[things <= 60] += 1
                    if things <= 60:
                        self.assertEqual(len(things_of(cored(plain))), things)
                    else:
                        self.too_many(plain)
        self.assertGreater(min(found.values()), 8)

    def test_five_binders(self):
        for word in ("sometime", "always", "once", "ever"):
            self.assertTrue(is_sentence(cored(nested(lambda s: (word, s), A, 4))))
            self.too_many(nested(lambda s: (word, s), A, 5))
        self.too_many(nested(lambda s: ("common", ANN, ("not", s)), A, 5))
        self.too_many(nested(lambda s: ("until", s, A), A, 5))
        self.too_many(nested(lambda s: ("since", A, s), A, 5))
        four = nested(lambda s: ("sometime", s), A, 4)
        self.assertTrue(is_sentence(cored(("and", four, four))))
        two = nested(lambda s: ("sometime", s), A, 2)
        self.assertTrue(is_sentence(cored(("sometime", ("sometime", ("told", ANN, A, two))))))
        self.assertTrue(is_sentence(cored(("sometime", ("sometime", ("told", ANN, two, A))))))
        self.too_many(("sometime", ("sometime", ("told", ANN, A, ("sometime", two)))))
        self.too_many(("sometime", ("sometime", ("told", ANN, ("sometime", two), A))))

    def test_four_shows(self):
        for word in ("tell", "told"):
            self.assertTrue(is_sentence(cored(nested(lambda s: (word, ANN, A, s), A, 3))))
            self.too_many(nested(lambda s: (word, ANN, A, s), A, 4))
            self.assertTrue(is_sentence(cored(nested(lambda s: (word, ANN, s, A), A, 3))))
            self.too_many(nested(lambda s: (word, ANN, s, A), A, 4))
            self.too_many((word, ANN, nested(lambda s: (word, ANN, A, s), A, 3), A))
            self.too_many((word, ANN, A, nested(lambda s: (word, ANN, s, A), A, 3)))
        self.assertEqual(max(map(len, rooms_at(cored(nested(lambda s: ("told", ANN, A, s), A, 3))))), 3)

    def test_random_plain_sentences(self):
        chance = random.Random(25)
        found = {True: 0, False: 0}
        for count in range(3000):
            plain = random_plain(chance, chance.choice((4, 8, 14, 30)))
            text = slow_core(plain) if self.core_words(plain) < 20000 else None
            good = text is not None and is_sentence(self.read_freely(text))
            found[good] += 1
            if good:
                self.assertEqual(shown_sentence(cored(plain)), text)
            else:
                self.too_many(plain)
        self.assertGreater(min(found.values()), 500)

    def core_words(self, plain):
        """How many words the core may have, so that none without measure is made."""
        parts = [self.core_words(part) for part in plain[1:] if isinstance(part, tuple) and part[0] in PLAIN_FORMS]
        return 30 + 2 * sum(parts) if plain[0] in ("whether", "tell", "told") else 15 + sum(parts)

    def read_freely(self, text):
        try:
            return read_sentence(text)
        except ValueError:
            return None

    def test_each_word_has_a_core_here(self):
        self.assertEqual(set(CORES) | {"fact"}, set(PLAIN_FORMS))


class WaysTest(unittest.TestCase):
    """What the words say of ways (21)."""

    def test_ways(self):
        chance = random.Random(26)
        for count in range(300):
            world = random_world(chance, chance.randint(1, 5))
            held = {name: dict(world[0]).get(name, ()) for name in "ab"}
            for point in range(len(world[1])):
                ways, backs = ways_of(world, point), ways_of(world, point, True)
                self.said(world, point, ("sometime", A), any(self.at_some(way, held["a"]) for way in ways))
                self.said(world, point, ("always", A), all(self.at_each(way, held["a"]) for way in ways))
                self.said(world, point, ("surely", A), all(self.at_some(way, held["a"]) for way in ways))
                self.said(world, point, ("spared", A), any(self.at_each(way, held["a"]) for way in ways))
                self.said(world, point, ("until", A, B), any(self.until(way, held) for way in ways))
                self.said(world, point, ("till", A, B), all(self.until(way, held) for way in ways))
                self.said(world, point, ("once", A), any(self.at_some(way, held["a"]) for way in backs))
                self.said(world, point, ("ever", A), all(self.at_each(way, held["a"]) for way in backs))
                self.said(world, point, ("since", A, B), any(self.until(way, held) for way in backs))

    def at_some(self, way, held):
        return any(point in held for point in way)

    def at_each(self, way, held):
        return all(point in held for point in way)

    def until(self, way, held):
        return any(way[place] in held["b"] and self.at_each(way[:place], held["a"]) for place in range(len(way)))

    def said(self, world, point, plain, wanted):
        self.assertEqual(point in holds(world, cored(plain)), wanted, (world, point, plain))


if __name__ == "__main__":
    unittest.main()
