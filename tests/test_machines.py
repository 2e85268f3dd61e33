"""Machines and their worlds: points [62], [63] and [64]."""

import random
import unittest
from copy import deepcopy

from samplemachines import random_machine, slow_done, slow_machine, slow_states
from samples import JUNK, nested, places_in, replaced
from test_reckonings import slow_reckoned
from worldsay.errors import TooMany
from worldsay.machines import done_at, first_state, is_machine, world_of
from worldsay.worlds import is_world

ONE = ("num", 1)
N, M = ("box", "n"), ("box", "m")
BOX = ("n", 0, 3, 0)
DEED = (ONE, (("n", ("add", N, ONE)),))


def machine(boxes=(BOX,), hands=(), deeds=(), facts=()):
    return (boxes, hands, deeds, facts)


class IsMachineTest(unittest.TestCase):
    def yes(self, thing):
        with self.subTest(thing=thing):
            self.assertIs(is_machine(thing), True)

    def no(self, thing):
        with self.subTest(thing=thing):
            before = deepcopy(thing)
            self.assertIs(is_machine(thing), False)
            self.assertEqual(repr(thing), repr(before))

    def test_machines(self):
        self.yes(machine())
        self.yes(machine((BOX,), (("ann", ("n",)), ("bob", ())), (DEED, DEED), (("a", N), ("b", ONE))))
        self.yes(machine((("z", -999, 999, 0), ("a", 999, 999, 999)), (("z", ("a", "z")),)))

    def test_things_that_are_none(self):
        for thing in JUNK + (list(machine()), machine() + ((),), machine()[:3], machine(boxes=()), machine(boxes=[BOX]),
                             machine(hands=[]), machine(deeds=[]), machine(facts=[]), machine(boxes=None), machine(hands=None),
                             machine(deeds={}), machine(facts="")):
            self.no(thing)

    def test_boxes(self):
        for box in (list(BOX), BOX[:3], BOX + (0,), ("N", 0, 3, 0), ("", 0, 3, 0), (1, 0, 3, 0), ("n", 0, 3, 4), ("n", 0, 3, -1),
                    ("n", 3, 0, 0), ("n", 3, 0, 3), ("n", -1000, 3, 0), ("n", 0, 1000, 0), ("n", False, 3, 0), ("n", 0, True, 0),
                    ("n", 0, 3, True), ("n", 0, 3, "0"), ("n", 0, 3, None), (["n"], 0, 3, 0), None, "n", ()):
            self.no(machine(boxes=(box,)))
        self.no(machine(boxes=(BOX, BOX)))
        self.no(machine(boxes=(BOX, ("m", 0, 1, 0), ("n", 1, 1, 1))))
        for many in range(9):
            boxes = tuple((name, 0, 1, 0) for name in "hgfedcba"[:many])
            self.assertIs(is_machine(machine(boxes=boxes)), 1 <= many <= 6)

    def test_hands(self):
        boxes = (("n", 0, 1, 0), ("m", 0, 1, 0))
        self.yes(machine(boxes, (("ann", ("m", "n")),)))
        for hand in (("ann", ("n", "m")), ("ann", ("n", "n")), ("ann", ("k",)), ("ann", ["n"]), ("ann", "n"), ("ann", None),
                     ("Ann", ("n",)), ("ann",), ("ann", ("n",), ()), ["ann", ("n",)], "ann", None, (1, ("n",)), ("ann", (1,)),
                     ("ann", (None,)), ("ann", (["n"],)), ({}, ()), ("ann", (True,))):
            self.no(machine(boxes, (hand,)))
        self.no(machine(boxes, (("bob", ()), ("ann", ()))))
        self.no(machine(boxes, (("ann", ()), ("ann", ()))))
        for many in range(7):
            self.assertIs(is_machine(machine(boxes, tuple((name, ()) for name in "abcdefg"[:many]))), many <= 4)

    def test_deeds(self):
        self.yes(machine(deeds=((ONE, ()),)))
        two = (("n", 0, 1, 0), ("m", 0, 1, 0))
        self.yes(machine(two, (), ((N, (("n", M), ("m", N))),)))
        for deed in ((ONE,), (ONE, (), ()), [ONE, ()], (ONE, []), (1, ()), (ONE, None), (ONE, (("k", ONE),)), (ONE, (("n", 1),)),
                     (ONE, (("n",),)), (ONE, (("n", ONE, ONE),)), (ONE, (["n", ONE],)), (ONE, (("n", ONE), ("n", ONE))),
                     (("box", "k"), ()), (ONE, (("n", ("box", "k")),)), (ONE, ("n", ONE)), (ONE, ((1, ONE),)), (("num", True), ()),
                     (ONE, ((["n"], ONE),)), (ONE, (("n", ("num", 1000)),)), None, (), ({}, ()), (ONE, {"n": ONE})):
            self.no(machine(deeds=(deed,)))
            self.no(machine(deeds=(DEED, deed)))
        for many in (0, 1, 59, 60, 61, 62):
            self.assertIs(is_machine(machine(deeds=(DEED,) * many)), many <= 60)
        for many in (19, 21):
            great = nested(lambda r: ("add", r, ONE), ONE, many // 2)
            self.assertIs(is_machine(machine(deeds=((great, ()),))), many <= 20)
            self.assertIs(is_machine(machine(deeds=((ONE, (("n", great),)),))), many <= 20)
            self.assertIs(is_machine(machine(facts=(("a", great),))), many <= 20)

    def test_facts(self):
        for fact in (("a",), ("a", 1), ("A", ONE), ("a", ONE, ONE), ["a", ONE], ("a", list(ONE)), ("a", ("box", "k")), (1, ONE), None,
                     ("", ONE), ({}, ONE), ("a", None)):
            self.no(machine(facts=(fact,)))
        self.no(machine(facts=(("b", ONE), ("a", ONE))))
        self.no(machine(facts=(("a", ONE), ("a", ONE))))
        for many in range(11):
            self.assertIs(is_machine(machine(facts=tuple((name, ONE) for name in "abcdefghijkl"[:many]))), many <= 8)

    def test_random_things(self):
        chance = random.Random(90)
        news = JUNK + (ONE, 1, -1, 1000, "n", "m", "zz", ("box", "zz"), True, BOX, (), ("n",), DEED)
        found = {True: 0, False: 0}
        for count in range(3000):
            thing = random_machine(chance)
            self.yes(thing)
            thing = replaced(thing, chance.choice(places_in(thing)), chance.choice(news))
            wanted = slow_machine(thing)
            found[wanted] += 1
            self.assertIs(is_machine(thing), wanted, thing)
        self.assertGreater(min(found.values()), 60)


class StatesTest(unittest.TestCase):
    def test_first_state(self):
        self.assertEqual(first_state(machine((("n", 0, 3, 2), ("m", -5, 0, -1)))), (2, -1))

    def test_done(self):
        told = machine((("n", 0, 3, 0), ("m", -2, 2, 1)), (), (
            (ONE, (("n", ("add", N, ONE)),)),
            (("less", N, ("num", 2)), (("n", M), ("m", N))),
            (("num", 0), (("n", ONE),)),
            (("num", -1), ()),
            (ONE, (("n", ("times", ("num", 999), ("num", 999))), ("m", ("num", -999)))),
            (("sub", N, M), (("m", ("sub", M, N)),)),
        ))
        self.assertEqual(done_at(told, (0, 1), 0), (1, 1))
        self.assertEqual(done_at(told, (3, 1), 0), (3, 1))
        # Both are laid by the state ahead; and cut.
        self.assertEqual(done_at(told, (1, 2), 1), (2, 1))
        self.assertEqual(done_at(told, (1, -2), 1), (0, 1))
        self.assertIsNone(done_at(told, (2, 0), 1))
        self.assertIsNone(done_at(told, (0, 0), 2))
        self.assertEqual(done_at(told, (0, 0), 3), (0, 0))
        self.assertEqual(done_at(told, (0, 0), 4), (3, -2))
        self.assertIsNone(done_at(told, (2, 2), 5))
        self.assertEqual(done_at(told, (3, -2), 5), (3, -2))

    def test_world(self):
        told = machine((("n", 0, 2, 0),), (("ann", ()), ("bob", ("n",))), (DEED, (("same", N, ("num", 2)), (("n", ("num", 0)),))),
                       (("big", ("less", ("num", 1), N)), ("none", ("num", 0))))
        world, states = world_of(told)
        self.assertEqual(states, [(0,), (1,), (2,)])
        self.assertEqual(world, ((("big", (2,)), ("none", ())), ((1,), (2,), (0, 2)),
                                 (("ann", ((0, 1, 2),)), ("bob", ((0,), (1,), (2,))))))

    def test_no_deed(self):
        self.assertEqual(world_of(machine()), (((), ((),), ()), [(0,)]))

    def test_in_the_order_in_which_they_come(self):
        told = machine((("n", 0, 9, 5),), (), ((ONE, (("n", ("num", 9)),)), (ONE, (("n", ("num", 0)),)), (("same", N, ("num", 9)),
                                                                                                      (("n", ("num", 3)),))))
        self.assertEqual(world_of(told)[1], [(5,), (9,), (0,), (3,)])

    def test_sixty_points(self):
        for many in (59, 60, 61, 62):
            told = machine((("n", 0, many - 1, 0),), (), (DEED,))
            if many <= 60:
                world, states = world_of(told)
                self.assertEqual(states, [(number,) for number in range(many)])
                self.assertEqual(world[1][-1], (many - 1,))
            else:
                with self.assertRaises(TooMany):
                    world_of(told)
        wide = machine((("n", 0, 999, 0),), (), tuple((ONE, (("n", ("num", number)),)) for number in range(1, 61)))
        with self.assertRaises(TooMany):
            world_of(wide)
        self.assertEqual(len(world_of(machine(wide[0], (), wide[2][:59]))[1]), 60)

    def test_random_machines(self):
        chance = random.Random(91)
        found = {"world": 0, "many": 0, "several": 0}
        for count in range(700):
            told = random_machine(chance, chance.choice((1, 2, 3, 6)))
            states = slow_states(told)
            for state in states[:5]:
                for number in range(len(told[2])):
                    self.assertEqual(done_at(told, state, number), slow_done(told, state, number))
            self.assertEqual(first_state(told), states[0])
            if len(states) > 60:
                found["many"] += 1
                with self.assertRaises(TooMany):
                    world_of(told)
                continue
            found["world"] += 1
            found["several"] += len(states) > 3
            self.look(told, states)
        self.assertGreater(found["several"], 60)

    def look(self, told, states):
        world, points = world_of(told)
        self.assertEqual(points, states)
        self.assertIs(type(points), list)
        self.assertTrue(is_world(world))
        for point, state in enumerate(states):
            led = {slow_done(told, state, number) for number in range(len(told[2]))} - {None}
            self.assertEqual({states[other] for other in world[1][point]}, led)
        values = [{box[0]: one for box, one in zip(told[0], state)} for state in states]
        self.assertEqual(world[0], tuple((name, tuple(point for point in range(len(states)) if slow_reckoned(r, values[point])))
                                         for name, r in told[3]))
        self.assertEqual([hand for hand, parts in world[2]], [hand for hand, seen in told[1]])
        for (hand, parts), (same, seen) in zip(world[2], told[1]):
            for point in range(len(states)):
                part = [part for part in parts if point in part][0]
                self.assertEqual(part, tuple(other for other in range(len(states)) if all(
                    values[other][name] == values[point][name] for name in seen)))


if __name__ == "__main__":
    unittest.main()
