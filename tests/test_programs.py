"""Systems of programs, and their machines: points [68], [69] and [70]."""

import random
import unittest
from copy import deepcopy

from samplemachines import random_system, slow_order, slow_system, slow_ways_on
from samples import JUNK, nested, places_in, replaced
from worldsay.errors import TooMany
from worldsay.machines import done_at, first_state, is_machine, world_of
from worldsay.programs import first_of, is_system, ways_on
from worldsay.weaving import machine_of

ONE, NOUGHT = ("num", 1), ("num", 0)
X, Y = ("box", "x"), ("box", "y")
STOP = ("stop",)
ANN = ("ann", "p", (), (STOP,))
# A board with x, ann's own y, bob's own z.
BOARD = (("x", 0, 3, 0),)
TWO = (BOARD, (("ann", "p", (("y", 0, 9, 5),), (STOP,)), ("bob", "q", (("z", -1, 1, 0),), (STOP,))), (("a", X),))


def with_lines(lines, other=(STOP,)):
    return (BOARD, (("ann", "p", (("y", 0, 9, 5),), lines), ("bob", "q", (("z", -1, 1, 0),), other)), ())


def great(many):
    return nested(lambda r: ("add", r, ONE), ONE, many // 2)


class IsSystemTest(unittest.TestCase):
    def yes(self, thing):
        with self.subTest(thing=thing):
            self.assertIs(is_system(thing), True)

    def no(self, thing):
        with self.subTest(thing=thing):
            before = deepcopy(thing)
            self.assertIs(is_system(thing), False)
            self.assertEqual(repr(thing), repr(before))

    def test_systems(self):
        self.yes(TWO)
        self.yes(((), (ANN,), ()))
        self.yes(with_lines((("set", "x", Y), ("set", "y", ("box", "p")), ("tell", "bob", "z", X), ("wait", Y), ("go", X, 0), ("go", Y, 8),
                             ("any", 0, 8), STOP)))

    def test_things_that_are_none(self):
        for thing in JUNK + (list(TWO), TWO[:2], TWO + ((),), ((), (), ()), ([], (ANN,), ()), ((), [ANN], ()), ((), (ANN,), []),
                             ((), (list(ANN),), ()), ((), (ANN[:3],), ()), ((), (ANN + ((),),), ()), ((), (None,), ()),
                             ((), (("Ann", "p", (), (STOP,)),), ()), ((), (("ann", "P", (), (STOP,)),), ()),
                             ((), (("ann", "p", [], (STOP,)),), ()), ((), (("ann", "p", (), [STOP]),), ()),
                             ((), (("ann", "p", (), ()),), ()), ((), ((["ann"], "p", (), (STOP,)),), ()),
                             ((), (("ann", ["p"], (), (STOP,)),), ()), ((), (("ann", {}, (), (STOP,)),), ())):
            self.no(thing)

    def test_how_many(self):
        def boxes(names):
            return tuple((name, 0, 1, 0) for name in names)
        for many in range(6):
            self.assertIs(is_system((boxes("uvwxyz"[:many]), (ANN,), ())), many <= 3)
            self.assertIs(is_system(((), (("ann", "p", boxes("uvwxyz"[:many]), (STOP,)),), ())), many <= 2)
            programs = tuple((hand, counter, (), (STOP,)) for hand, counter in zip("abcdef"[:many], "pqrstu"))
            self.assertIs(is_system(((), programs, ())), 1 <= many <= 3)
        for many in range(1, 11):
            self.assertIs(is_system(((), (("ann", "p", (), (STOP,) * many),), ())), many <= 8)
        # At most six boxes and counters in all.
        self.yes((boxes("uvw"), (("ann", "p", boxes("xy"), (STOP,)),), ()))
        self.yes((boxes("uv"), (("ann", "p", boxes("xy"), (STOP,)), ("bob", "q", (), (STOP,))), ()))
        self.no((boxes("uvw"), (("ann", "p", boxes("xy"), (STOP,)), ("bob", "q", (), (STOP,))), ()))
        self.no((boxes("uv"), (("ann", "p", boxes("xy"), (STOP,)), ("bob", "q", boxes("z"), (STOP,))), ()))
        for many in range(11):
            facts = tuple((name, ONE) for name in "abcdefghijk"[:many])
            self.assertIs(is_system(((), (ANN,), facts)), many <= 8)

    def test_names_unlike(self):
        def system(board="x", own="y", counter="p", other="z", second="q", hands=("ann", "bob")):
            return (((board, 0, 1, 0),), ((hands[0], counter, ((own, 0, 1, 0),), (STOP,)), (hands[1], second, ((other, 0, 1, 0),), (STOP,))), ())
        self.yes(system())
        self.yes(system(board="ann", own="bob"))
        for names in ({"own": "x"}, {"counter": "x"}, {"other": "y"}, {"second": "p"}, {"second": "y"}, {"counter": "y"}, {"other": "x"}):
            self.no(system(**names))
        self.no(system(hands=("bob", "ann")))
        self.no(system(hands=("ann", "ann")))

    def test_lines(self):
        for line in (("set", "x", ONE), ("set", "y", great(11)), ("tell", "bob", "z", ONE), ("wait", ONE), ("go", ONE, 0), ("go", ONE, 1),
                     ("any", 0, 1), ("any", 1, 1), STOP, ("set", "y", ("add", ("box", "p"), X))):
            self.yes(with_lines((line,)))
        for line in (("set", "z", ONE), ("set", "p", ONE), ("set", "q", ONE), ("set", "k", ONE), ("set", "x"), ("set", "x", 1),
                     ("set", "x", ONE, ONE), ("set", ["x"], ONE), ("set", None, ONE), ("set", "x", ("box", "z")),
                     ("set", "x", ("box", "q")), ("set", "x", great(13)), ("tell", "ann", "y", ONE), ("tell", "bob", "y", ONE),
                     ("tell", "bob", "x", ONE), ("tell", "bob", "q", ONE), ("tell", "cid", "z", ONE), ("tell", "z", ONE),
                     ("tell", "bob", "z"), ("tell", "bob", "z", ("box", "z")), ("tell", ["bob"], "z", ONE), ("tell", "bob", ["z"], ONE),
                     ("tell", "bob", "z", great(13)), ("wait",), ("wait", 1), ("wait", ONE, ONE), ("wait", great(13)), ("wait", ("box", "z")),
                     ("go", ONE), ("go", ONE, 2), ("go", ONE, -1), ("go", ONE, True), ("go", 1, 0), ("go", ONE, "0"), ("go", ONE, 0, 0),
                     ("go", great(13), 0), ("go", ("box", "q"), 0), ("any", 0), ("any", 0, 2), ("any", 2, 0), ("any", 0, False),
                     ("any", 0, 0, 0), ("any", ONE, 0), ("stop", 0), "stop", ["stop"], (), None, ("halt",), (["stop"],), ({},),
                     ("Stop",), (("stop",),), ("go", ONE, None), ("any", -1, 0)):
            self.no(with_lines((line,)))

    def test_twelve_reckonings_in_a_line(self):
        pick = ("pick", ONE, ONE, ONE)
        twelve = nested(lambda r: ("add", r, ONE), pick, 4)
        for line in (("set", "x", twelve), ("tell", "bob", "z", twelve), ("wait", twelve), ("go", twelve, 0)):
            self.yes(with_lines((line,)))

    def test_facts(self):
        self.yes(TWO[:2] + ((("a", ("add", ("box", "q"), ("box", "z"))), ("b", great(19))),))
        for facts in ((("a", ("box", "k")),), (("b", ONE), ("a", ONE)), (("a", ONE), ("a", ONE)), (("a", great(21)),), (("A", ONE),),
                      [("a", ONE)], (["a", ONE],), (("a", 1),), (("a",),)):
            self.no(TWO[:2] + (facts,))

    def test_random_things(self):
        chance = random.Random(94)
        news = JUNK + (ONE, 1, 2, -1, "x", "a", "ann", True, STOP, (), ("box", "a"), ("p", 0, 1, 0))
        found = {True: 0, False: 0}
        for count in range(3000):
            thing = random_system(chance, chance.random() < 0.5)
            self.assertTrue(slow_system(thing), thing)
            self.yes(thing)
            thing = replaced(thing, chance.choice(places_in(thing)), chance.choice(news))
            wanted = slow_system(thing)
            found[wanted] += 1
            self.assertIs(is_system(thing), wanted, thing)
        self.assertGreater(min(found.values()), 60)


class WaysOnTest(unittest.TestCase):
    def on(self, lines, state, wanted):
        system = with_lines(lines)
        self.assertTrue(is_system(system))
        self.assertEqual(ways_on(system, state), wanted)

    def test_first(self):
        # The board's x, ann's counter and y, bob's counter and z.
        self.assertEqual(first_of(TWO), (0, 0, 5, 0, 0))

    def test_lines(self):
        start = (0, 0, 5, 0, 0)
        self.on((("set", "x", Y),), start, [(3, 1, 5, 0, 0)])
        self.on((("set", "y", ("num", -4)),), start, [(0, 1, 0, 0, 0)])
        self.on((("set", "y", ("box", "p")),), start, [(0, 1, 0, 0, 0)])
        self.on((("tell", "bob", "z", Y),), start, [(0, 1, 5, 0, 1)])
        self.on((("wait", Y),), start, [(0, 1, 5, 0, 0)])
        self.on((("wait", X),), start, [])
        self.on((("go", Y, 0), STOP), start, [start])
        self.on((("go", Y, 2), STOP), start, [(0, 2, 5, 0, 0)])
        self.on((("go", X, 2), STOP), start, [(0, 1, 5, 0, 0)])
        self.on((("any", 0, 2), STOP), start, [start, (0, 2, 5, 0, 0)])
        self.on((("any", 2, 0), STOP), start, [start, (0, 2, 5, 0, 0)])
        self.on((("any", 1, 1), STOP), start, [(0, 1, 5, 0, 0)])
        self.on((STOP,), start, [])
        # A counter at its end, and one behind it.
        self.on((("set", "x", ONE),), (0, 1, 5, 0, 0), [])
        self.on((("set", "x", ONE), ("set", "x", ("num", 2))), (0, 1, 5, 0, 0), [(2, 2, 5, 0, 0)])

    def test_one_hand_at_a_time(self):
        system = with_lines((("set", "x", ONE),), (("tell", "ann", "y", ("num", 2)),))
        self.assertEqual(ways_on(system, (0, 0, 5, 0, 0)), [(0, 0, 2, 1, 0), (1, 1, 5, 0, 0)])
        same = ((), (("ann", "p", (), (("go", ONE, 0),)), ("bob", "q", (), (("go", ONE, 0),))), ())
        self.assertEqual(ways_on(same, (0, 0)), [(0, 0)])

    def test_random_systems(self):
        chance = random.Random(95)
        several = 0
        for count in range(800):
            system = random_system(chance, True)
            order = slow_order(system)
            self.assertEqual(first_of(system), tuple(box[3] for box in order))
            for times in range(6):
                state = tuple(chance.randint(box[1], box[2]) for box in order)
                told = ways_on(system, state)
                self.assertIs(type(told), list)
                self.assertEqual(told, slow_ways_on(system, state))
                several += len(told) > 1
        self.assertGreater(several, 300)


class WeavingTest(unittest.TestCase):
    def test_machine(self):
        told = machine_of(TWO)
        self.assertEqual(told[0], (("x", 0, 3, 0), ("p", 0, 1, 0), ("y", 0, 9, 5), ("q", 0, 1, 0), ("z", -1, 1, 0)))
        self.assertEqual(told[1], (("ann", ("p", "x", "y")), ("bob", ("q", "x", "z"))))
        self.assertEqual(told[3], TWO[2])

    def test_most_lines(self):
        twelve = nested(lambda r: ("add", r, ONE), ("pick", ONE, ONE, ONE), 4)
        for line in (("any", 0, 8), ("wait", twelve), ("go", twelve, 3), ("set", "x", twelve)):
            system = (BOARD, tuple((hand, counter, (), (line,) * 8) for hand, counter in zip(("ann", "bob", "cid"), "pqr")), ())
            self.assertTrue(is_system(system))
            self.assertTrue(is_machine(machine_of(system)))

    def test_random_systems(self):
        chance = random.Random(96)
        come = worlds = 0
        for count in range(500):
            system = random_system(chance, chance.random() < 0.5)
            told = machine_of(system)
            self.assertTrue(is_machine(told), system)
            order = slow_order(system)
            self.assertEqual(told[0], tuple(order))
            self.assertEqual(told[3], system[2])
            self.assertEqual(first_state(told), first_of(system))
            self.assertEqual(told[1], tuple((program[0], tuple(sorted(
                [box[0] for box in system[0] + program[2]] + [program[1]]))) for program in system[1]))
            states = [first_of(system)]
            for state in states:
                led = [done_at(told, state, number) for number in range(len(told[2]))]
                self.assertEqual(sorted(set(led) - {None}), slow_ways_on(system, state))
                states += [new for new in slow_ways_on(system, state) if new not in states]
                come += 1
                if len(states) > 60:
                    break
            for times in range(4):
                state = tuple(chance.randint(box[1], box[2]) for box in order)
                led = [done_at(told, state, number) for number in range(len(told[2]))]
                self.assertEqual(sorted(set(led) - {None}), ways_on(system, state))
            if len(states) <= 60:
                worlds += 1
                self.assertEqual(sorted(world_of(told)[1]), sorted(states))
            else:
                with self.assertRaises(TooMany):
                    world_of(told)
        self.assertGreater(come, 2000)
        self.assertGreater(worlds, 100)


if __name__ == "__main__":
    unittest.main()
