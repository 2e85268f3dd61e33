"""Faults of papers, and the small checker: points [6], [7], [37] and [38]."""

import random
import unittest
from copy import deepcopy

from samples import JUNK, random_sentence, random_world, roomy_sentence, slow_holds
from slowpapers import Slow, greater_ranks, part_of_paper
from worldsay.checking import fault_of, lets

A, B = ("fact", "a"), ("fact", "b")
X, Y = ("wish", "x"), ("wish", "y")
# 0 -> 1 -> 2, a at 2.
WORLD = ((("a", (2,)),), ((1,), (2,), ()), (("ann", ((0, 1), (2,))),))
# 0 least, 1 or, 2 a, 3 some, 4 wish
SOMETIME = ("least", "x", ("or", A, ("some", ("on",), X)))
PAPER = (
    (0, 0, True, (), None),
    (1, 0, True, (2,), 3), (3, 0, True, (2,), 1), (4, 1, True, (2,), None),
    (1, 1, True, (1,), 3), (3, 1, True, (1,), 2), (4, 2, True, (1,), None),
    (1, 2, True, (0,), 2), (2, 2, True, (0,), None),
)


def with_row(place, row):
    return PAPER[:place] + (row,) + PAPER[place + 1:]


class FaultTest(unittest.TestCase):
    def faulty(self, things, place, sentence=SOMETIME, world=WORLD):
        with self.subTest(things=things):
            before = deepcopy(things)
            self.assertEqual(fault_of(world, sentence, things), place)
            self.assertEqual(repr(things), repr(before))

    def test_right_papers(self):
        self.faulty(PAPER, None)
        self.faulty((), None)
        self.faulty(PAPER[7:], None)
        self.faulty(tuple(reversed(PAPER)), None)

    def test_things_that_are_no_rows(self):
        for thing in JUNK + (list(PAPER[1]), PAPER[1] + (None,), PAPER[1][:4], (PAPER[1],), dict(enumerate(PAPER[1])),
                             ("1", 0, True, (2,), 3), (True, 0, True, (2,), 3), (1, False, True, (2,), 3), (1, 0, 1, (2,), 3),
                             (1, 0, None, (2,), 3), (1, 0, "True", (2,), 3), (-1, 0, True, (2,), 3), (5, 0, True, (), None),
                             (1, -1, True, (2,), 3), (1, 3, True, (2,), 3), (1, 0, True, [2], 3), (1, 0, True, 2, 3),
                             (1, 0, True, None, 3), (1, 0, True, (True,), 3), (1, 0, True, ("2",), 3), (1, 0, True, (None,), 3),
                             (1, 0, True, (-1,), 3), (1, 0, True, (2,), "3"), (1, 0, True, (2,), (3,)), (1, 0, True, (2,), [3]),
                             (1, 0, True, (2,), False), (1, 0, True, (2,), True), (1, 0, True, {}, 3), ([1], 0, True, (2,), 3),
                             (1, {}, True, (2,), 3), (1, 0, [], (2,), 3), (10 ** 99, 0, True, (2,), 3)):
            self.faulty(with_row(1, thing), 1)

    def test_ranks_too_few_and_too_many(self):
        self.faulty(with_row(1, (1, 0, True, (), 3)), 1)
        self.faulty(with_row(1, (1, 0, True, (2, 0), 3)), 1)
        self.faulty(with_row(0, (0, 0, True, (0,), None)), 0)

    def test_ranks_where_not_hard(self):
        always = ("most", "x", ("and", ("not", B), ("every", ("on",), X)))
        rows = ((0, 2, True, (), None), (1, 2, True, (0,), None), (2, 2, True, (0,), None), (3, 2, False, (0,), None),
                (4, 2, True, (0,), None))
        self.faulty(rows, None, always)
        for place in range(1, 5):
            bad = rows[:place] + (rows[place][:3] + ((1,), None),) + rows[place + 1:]
            self.faulty(bad, place, always)

    def test_figures(self):
        most = 10 ** 60 - 1
        self.faulty(with_row(1, (1, 0, True, (most,), 3)), None)
        for place in (1, 2, 3):
            row = PAPER[place]
            self.faulty(with_row(place, row[:3] + ((most + 1,),) + row[4:]), place)
            self.faulty(with_row(place, row[:4] + (most + 1,)), place)
            self.faulty(with_row(place, row[:4] + (-most - 1,)), place)
            self.faulty(with_row(place, row[:4] + (most,)), place)
            self.faulty(with_row(place, row[:4] + (-most,)), place)
        # A choice of sixty figures is a row's, of sixty-one none's: that comes first, wherever it stands.
        bad = with_row(1, (1, 0, True, (2,), most))
        self.faulty(bad, 1)
        self.faulty(bad[:8] + ((2, 2, True, (0,), most + 1),), 8)
        raised = greater_ranks(Slow(WORLD, SOMETIME), PAPER, 10 ** 58, 7)
        self.faulty(raised, None)
        self.faulty(greater_ranks(Slow(WORLD, SOMETIME), PAPER, 10 ** 59 * 5, 0), 1)

    def test_a_claim_twice(self):
        self.faulty(PAPER + (PAPER[0],), 9)
        self.faulty(PAPER[:1] + PAPER[:1] + PAPER[1:], 1)
        self.faulty(PAPER + ((1, 0, True, (5,), 2),), 9)
        # A claim and its contrary are two: the one that is not so can't be as told.
        self.faulty(PAPER + ((2, 2, False, (0,), None),), 9)

    def test_no_row_comes_ahead_of_what_is_not_as_told(self):
        bad = with_row(1, (1, 0, True, (2,), 2))
        self.faulty(bad, 1)
        self.faulty(bad + ("x",), 9)
        self.faulty(bad + (PAPER[0],), 9)

    def test_claims_without_a_row(self):
        for place in range(1, 9):
            # What leaned on it is the first that is not as told.
            self.faulty(PAPER[:place] + PAPER[place + 1:], place - 1)

    def test_bad_rows(self):
        self.faulty(with_row(8, (2, 2, False, (0,), None)), 7)
        self.faulty(((2, 0, True, (0,), None),), 0)
        self.faulty(((2, 0, False, (0,), 1),), 0)
        self.faulty(with_row(1, (1, 0, True, (2,), None)), 1)
        self.faulty(with_row(1, (1, 0, True, (2,), 2)), 1)
        self.faulty(with_row(1, (1, 0, True, (2,), 4)), 1)
        self.faulty(with_row(2, (3, 0, True, (2,), 0)), 2)
        self.faulty(with_row(2, (3, 0, True, (2,), 2)), 2)
        self.faulty(with_row(0, (0, 0, True, (), 1)), 0)

    def test_ranks_that_go_otherwise(self):
        self.faulty(with_row(1, (1, 0, True, (3,), 3)), None)
        self.faulty(with_row(1, (1, 0, True, (1,), 3)), 1)
        self.faulty(with_row(2, (3, 0, True, (1,), 1)), 2)
        self.faulty(with_row(2, (3, 0, True, (3,), 1)), 1)
        # A wish of a hard binder has to fall.
        self.faulty(with_row(4, (1, 1, True, (2,), 3)), 3)
        self.faulty(with_row(4, (1, 1, True, (3,), 3)), 3)
        self.faulty(with_row(3, (4, 1, True, (1,), None)), 3)
        self.faulty(with_row(3, (4, 1, True, (3,), None)), 2)

    def test_a_ring_of_a_least(self):
        loop = ((), ((0,),), ())
        rows = ((0, 0, True, (), None), (1, 0, True, (0,), 3), (3, 0, True, (0,), 0), (4, 0, True, (0,), None))
        self.faulty(rows, 3, SOMETIME, loop)
        self.faulty(rows[:3] + ((4, 0, True, (1,), None),), 2, SOMETIME, loop)
        no = ((0, 0, False, (), None), (1, 0, False, (0,), None), (2, 0, False, (0,), None), (3, 0, False, (0,), None),
              (4, 0, False, (0,), None))
        self.faulty(no, None, SOMETIME, loop)
        most = ("most",) + SOMETIME[1:]
        self.faulty(rows, None, most, loop)
        self.faulty(no, 4, most, loop)

    def test_ranks_as_tuples(self):
        # least x (least y (or a (some on (or x y)))): falling by the outer one lets the inner one be anything.
        inner = ("or", A, ("some", ("on",), ("or", X, Y)))
        sentence = ("least", "x", ("least", "y", inner))
        # 0 x, 1 y, 2 or, 3 a, 4 some, 5 or, 6 wish x, 7 wish y
        rows = ((2, 2, True, (0, 9), 3), (3, 2, True, (0, 9), None), (1, 2, True, (0,), None),
                (7, 2, True, (0, 10), None), (5, 2, True, (0, 10), 7), (4, 1, True, (0, 10), 2), (2, 1, True, (0, 10), 4),
                (1, 1, True, (0,), None), (6, 1, True, (1, 0), None), (5, 1, True, (1, 0), 6), (4, 0, True, (1, 0), 1),
                (2, 0, True, (1, 0), 4), (1, 0, True, (1,), None), (0, 0, True, (), None))
        self.faulty(rows, None, sentence)
        for place, row in ((3, (7, 2, True, (0, 9), None)), (8, (6, 1, True, (0, 11), None)), (12, (1, 0, True, (0,), None))):
            self.faulty(rows[:place] + (row,) + rows[place + 1:], place, sentence)


class LetsTest(unittest.TestCase):
    def test_let_by(self):
        self.assertIs(lets(WORLD, SOMETIME, 0, True, PAPER), True)
        self.assertIs(lets(WORLD, SOMETIME, 0, False, PAPER), False)
        for point in (1, 2, 3, -1):
            self.assertIs(lets(WORLD, SOMETIME, point, True, PAPER), False)
        self.assertIs(lets(WORLD, SOMETIME, 0, True, PAPER[1:]), False)
        self.assertIs(lets(WORLD, SOMETIME, 0, True, ()), False)

    def test_things_that_are_no_papers(self):
        for thing in JUNK + (list(PAPER), PAPER[0], (PAPER,), [PAPER], {PAPER: 1}, dict(enumerate(PAPER)), "paper", (None,)):
            self.assertIs(lets(WORLD, SOMETIME, 0, True, thing), False)

    def test_the_paper_of_all_right_claims(self):
        chance = random.Random(42)
        for count in range(150):
            world = random_world(chance, chance.randint(1, 4))
            sentence = chance.choice((random_sentence, roomy_sentence))(chance, chance.choice((4, 9)))
            slow = Slow(world, sentence)
            rows = slow.paper()
            self.assertIsNone(fault_of(world, sentence, rows), (world, sentence))
            held = slow_holds(world, sentence)
            for point in slow.points:
                first = (0, point, point in held)
                part = part_of_paper(slow, rows, first)
                for paper in (rows, part, greater_ranks(slow, part, 3, 11)):
                    self.assertIs(lets(world, sentence, point, point in held, paper), True)
                    self.assertIs(lets(world, sentence, point, point not in held, paper), False)

    def test_papers_with_one_thing_turned(self):
        chance = random.Random(43)
        found = {None: 0, "row": 0, "as told": 0}
        for count in range(250):
            world = random_world(chance, chance.randint(1, 4))
            sentence = chance.choice((random_sentence, roomy_sentence))(chance, chance.choice((4, 9)))
            slow = Slow(world, sentence)
            rows = slow.paper()
            rows = part_of_paper(slow, rows, chance.choice(rows)[:3])
            for times in range(12):
                things = self.turned(chance, slow, rows)
                wanted = slow.fault(things)
                if wanted is None:
                    found[None] += 1
                else:
                    found["as told" if all(map(slow.is_row, things)) else "row"] += 1
                self.assertEqual(fault_of(world, sentence, things), wanted, (world, sentence, things))
                held = slow_holds(world, sentence)
                for point in slow.points:
                    for truth in (True, False):
                        told = lets(world, sentence, point, truth, things)
                        self.assertIs(told, slow.lets(point, truth, things))
                        # What is let by is so.
                        self.assertTrue(not told or truth == (point in held))
        self.assertGreater(min(found.values()), 100)

    def turned(self, chance, slow, rows):
        """A paper with one thing of it turned."""
        rows = list(rows)
        place = chance.randrange(len(rows))
        row = list(rows[place])
        way = chance.randrange(9)
        if way == 0:
            rows.pop(place)
        elif way == 1:
            rows.insert(chance.randrange(len(rows) + 1), rows[place])
        elif way == 2:
            rows.insert(place, chance.choice(JUNK))
        else:
            if way == 3:
                row[2] = chance.choice((not row[2], int(row[2])))
            elif way == 4 and row[3]:
                rank = chance.randrange(len(row[3]))
                new = chance.choice((0, 1, row[3][rank] + 1, max(0, row[3][rank] - 1), True, -1))
                row[3] = row[3][:rank] + (new,) + row[3][rank + 1:]
            elif way == 5:
                row[3] = chance.choice((row[3] + (0,), row[3][1:], list(row[3]), None))
            elif way == 6:
                row[chance.randrange(2)] = chance.choice((0, 1, 2, -1, 99, None))
            else:
                row[4] = chance.choice([None, True] + slow.parts[row[0]] + list(slow.points))
            rows[place] = tuple(row)
        return tuple(rows)


class RightTest(unittest.TestCase):
    """What is let by is so, whoever wrote it: rows of any claims, with small ranks and any choices."""

    def test_random_rows(self):
        chance = random.Random(44)
        let = 0
        for count in range(3000):
            world = random_world(chance, chance.randint(1, 2))
            sentence = random_sentence(chance, chance.randint(1, 5))
            slow = Slow(world, sentence)
            held = slow.right()
            rows = self.any_rows(chance, slow)
            # Rows that are not as told are taken out, till all that are left are.
            kept = {row[:3]: row for row in rows}
            going = True
            while going:
                good = {claim: row for claim, row in kept.items() if slow.as_told(kept, row)}
                going, kept = len(good) < len(kept), good
            paper = tuple(kept.values())
            self.assertIsNone(fault_of(world, sentence, paper))
            for number, point, truth, ranks, choice in paper:
                let += 1
                self.assertEqual(point in held[number], truth, (world, sentence, paper))
        self.assertGreater(let, 3000)

    def any_rows(self, chance, slow):
        rows = []
        for number in range(len(slow.things)):
            for point in slow.points:
                for truth in (True, False):
                    ranks = tuple(chance.randint(0, 2) if hard else 0 for hard in slow.hard(number, truth))
                    rows.append((number, point, truth, ranks, chance.choice(slow.choices((number, point, truth)))))
        return rows


if __name__ == "__main__":
    unittest.main()
