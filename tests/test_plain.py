"""Plain things: points [2], [3] (names) and [10]."""

import random
import unittest
from copy import deepcopy

from samples import JUNK, nested
from worldsay.plain import alike, is_name

# One of each kind and shape: no two of them are alike.
UNLIKE = (
    None, True, False, 0, 1, -1, 2, 10 ** 99, "", "1", "a", "A", "ab", "None", "True",
    (), [], {}, (1,), [1], (True,), [True], (None,), [None], ((),), ([],), [()], [[]], ({},), [{}],
    (1, 2), (2, 1), [1, 2], [2, 1], (1, 2, 3), ("a", "b"), ("ab",), "(1, 2)",
    {1: "a"}, {True: "a"}, {"1": "a"}, {1: "b"}, {1: True}, {1: 1}, {True: 1}, {True: True}, {None: 1},
    {"a": 1}, {"a": [1]}, {"a": (1,)}, {"b": [1]}, {"a": {}}, {"a": []}, {"a": 1, "b": 2}, {"a": 2, "b": 1},
    {"a": 1, "b": 2, "c": 3}, {"a": 1, "c": 2}, {(1, 2): 3}, {(True, 2): 3}, {((1,), 0): 3}, {((True,), 0): 3},
    {((1,), False): 3}, {(): 3}, [("a", 1)], (("a", 1),), {0: 1, 1: 0}, {False: 1, 1: 0}, {0: 1, True: 0},
)


def random_key(chance, depth):
    if depth and chance.random() < 0.3:
        return tuple(random_key(chance, depth - 1) for count in range(chance.randint(0, 2)))
    return chance.choice((None, True, False, 0, 1, 2, "a", "b", ""))


def random_thing(chance, depth):
    kind = chance.randrange(6) if depth else 5
    parts = [random_thing(chance, depth - 1) for count in range(chance.randint(0, 3))] if kind < 4 else []
    if kind in (0, 1):
        return tuple(parts)
    if kind == 2:
        return parts
    if kind == 3:
        return {random_key(chance, 2): part for part in parts}
    return random_key(chance, 2)


def other_order(thing):
    """The same thing made anew, each dict filled in the other order."""
    if isinstance(thing, dict):
        return {other_order(key): other_order(thing[key]) for key in reversed(list(thing))}
    if isinstance(thing, (tuple, list)):
        return type(thing)([other_order(part) for part in thing])
    return thing


def written(thing):
    """A text that is the same for two plain things just where they are alike."""
    if isinstance(thing, dict):
        return "{" + ",".join(sorted(written(key) + ":" + written(thing[key]) for key in thing)) + "}"
    if isinstance(thing, (tuple, list)):
        return type(thing).__name__ + "(" + ",".join(map(written, thing)) + ")"
    return repr(thing)


class NameTest(unittest.TestCase):
    def test_names(self):
        for thing in ("a", "z", "ab", "zz", "abcdefgh", "zzzzzzzz", "fact", "least"):
            with self.subTest(thing=thing):
                self.assertIs(is_name(thing), True)

    def test_how_many_signs(self):
        for many in range(0, 13):
            with self.subTest(many=many):
                self.assertIs(is_name("a" * many), 1 <= many <= 8)

    def test_each_sign_alone_and_among_letters(self):
        for number in range(0, 0x250):
            sign = chr(number)
            small = sign in "abcdefghijklmnopqrstuvwxyz"
            for text in (sign, sign + "a", "a" + sign, "ab" + sign + "cd"):
                with self.subTest(text=text):
                    self.assertIs(is_name(text), small)

    def test_small_letters_of_other_tongues(self):
        for text in ("\u00e4", "\u00df", "\u03b1", "\u0430b", "\uff41", "\U0001d41a", "a\u0301"):
            with self.subTest(text=text):
                self.assertIs(is_name(text), False)

    def test_things_of_other_kinds(self):
        for thing in (None, True, False, 0, 1, 12345678, (), ("a",), ["a"], [], {}, {"a": "a"}, ("a", "b"), (("a",),)):
            with self.subTest(thing=thing):
                self.assertIs(is_name(thing), False)


class AlikeTest(unittest.TestCase):
    def test_each_is_alike_to_itself_made_anew_and_to_no_other(self):
        for place, one in enumerate(UNLIKE):
            for other_place, other in enumerate(UNLIKE):
                with self.subTest(one=one, other=other):
                    self.assertIs(alike(one, deepcopy(other)), place == other_place)

    def test_dicts_in_another_order(self):
        one = {"a": 1, "b": [2], (1, "c"): {"d": None, "e": ()}}
        other = {(1, "c"): {"e": (), "d": None}, "b": [2], "a": 1}
        self.assertIs(alike(one, other), True)
        self.assertIs(alike([one, (other,)], [other, (one,)]), True)
        other[(1, "c")]["d"] = False
        self.assertIs(alike(one, other), False)

    def test_dicts_of_which_one_has_more(self):
        self.assertIs(alike({"a": 1}, {"a": 1, "b": 1}), False)
        self.assertIs(alike({"a": 1, "b": 1}, {"a": 1}), False)
        self.assertIs(alike({}, {"a": 1}), False)
        self.assertIs(alike({"a": 1}, {}), False)

    def test_tuples_of_which_one_begins_like_the_other(self):
        for kind in (tuple, list):
            self.assertIs(alike(kind((1, 2)), kind((1, 2, 3))), False)
            self.assertIs(alike(kind((1, 2, 3)), kind((1, 2))), False)
            self.assertIs(alike(kind(()), kind((1,))), False)

    def test_things_within_one_another_to_a_hundred(self):
        for wrap in (lambda thing: (thing,), lambda thing: [thing], lambda thing: {"a": thing},
                     lambda thing: [1, {"b": (thing, 2)}]):
            for times in (1, 2, 33, 99, 100, 120):
                with self.subTest(times=times):
                    self.assertIs(alike(nested(wrap, 1, times), nested(wrap, 1, times)), True)
                    self.assertIs(alike(nested(wrap, 1, times), nested(wrap, True, times)), False)
                    self.assertIs(alike(nested(wrap, (), times), nested(wrap, [], times)), False)
                    self.assertIs(alike(nested(wrap, 1, times), nested(wrap, 1, times - 1)), False)

    def test_keys_within_one_another_to_a_hundred(self):
        one, other = nested(lambda thing: (thing,), 1, 99), nested(lambda thing: (thing,), True, 99)
        self.assertIs(alike({one: 2}, {deepcopy(one): 2}), True)
        self.assertIs(alike({one: 2}, {other: 2}), False)

    def test_great_numbers(self):
        self.assertIs(alike(10 ** 99, 10 ** 99), True)
        self.assertIs(alike(10 ** 99, 10 ** 99 + 1), False)
        self.assertIs(alike(-10 ** 99, 10 ** 99), False)

    def test_the_last_parts_count_too(self):
        long = list(range(5000))
        self.assertIs(alike(long, list(long)), True)
        for place in (0, 1, 2500, 4999):
            turned = list(long)
            turned[place] = -1
            self.assertIs(alike(long, turned), False)

    def test_random_things(self):
        chance = random.Random(10)
        found = {True: 0, False: 0}
        for count in range(4000):
            one = random_thing(chance, 3)
            other = other_order(one) if count % 2 else random_thing(chance, chance.randint(0, 3))
            told = alike(one, other)
            found[told] += 1
            with self.subTest(one=one, other=other):
                self.assertIs(told, written(one) == written(other))
                self.assertIs(alike(other, one), told)
        self.assertGreater(min(found.values()), 1000)

    def test_nothing_handed_in_is_changed(self):
        for thing in (*JUNK, [1, [2, {"a": [3]}], ("b", [4])], {"a": {"b": []}}):
            before = deepcopy(thing)
            alike(thing, before)
            alike(before, thing)
            alike(thing, thing)
            is_name(thing)
            self.assertEqual(written(thing), written(before))

    def test_dicts_keep_their_order(self):
        one, other = {"b": 1, "a": 2}, {"a": 2, "b": 1}
        alike(one, other)
        self.assertEqual((list(one), list(other)), (["b", "a"], ["a", "b"]))


if __name__ == "__main__":
    unittest.main()
