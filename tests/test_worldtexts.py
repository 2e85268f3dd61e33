"""Worlds written and read: points [17] and [18]."""

import random
import unittest

from samples import random_world, slow_name, spoiled_words
from worldsay.errors import NoText
from worldsay.worlds import is_world
from worldsay.worldtexts import read_world, shown_world

WORLD = ((("a", (0, 2)), ("b", ())), ((1, 2), (), (2,)), (("ann", ((0, 1), (2,))), ("bob", ((0, 2), (1,)))))
ROWS = ["points 3", "fact a 0 2", "fact b", "move 0 1 2", "move 2 2", "hand ann 0,1 2", "hand bob 0,2 1"]

# Rows, and the first row and word that can't stand there; None where they write a world.
REFUSED = (
    ([], (0, 0)), ([""], (0, 0)), (["point 3"], (0, 0)), (["fact a"], (0, 0)), (["points"], (0, 1)),
    (["points "], (0, 1)), ([" points 3"], (0, 0)), (["points  3"], (0, 1)), (["points 3 "], (0, 2)),
    (["points 3 4"], (0, 2)), (["points 0"], (0, 1)), (["points 03"], (0, 1)), (["points 00"], (0, 1)),
    (["points 1000"], (0, 1)), (["points -1"], (0, 1)), (["points +1"], (0, 1)), (["points a"], (0, 1)),
    (["points 1.0"], (0, 1)), (["points 3,4"], (0, 1)), (["points 999"], None), (["points 1"], None),
    (["points 3", "points 3"], (1, 0)), (["points 3", ""], (1, 0)), (["points 3", "box a 0 1 0"], (1, 0)),
    (["points 3", "facts a"], (1, 0)), (["points 3", "fact"], (1, 1)), (["points 3", "fact "], (1, 1)),
    (["points 3", "fact A"], (1, 1)), (["points 3", "fact abcdefghi"], (1, 1)), (["points 3", "fact a "], (1, 2)),
    (["points 3", "fact a 3"], (1, 2)), (["points 3", "fact a 0 3"], (1, 3)), (["points 3", "fact a 0 0"], (1, 3)),
    (["points 3", "fact a 1 0"], (1, 3)), (["points 3", "fact a 0 2 1"], (1, 4)), (["points 3", "fact a 00"], (1, 2)),
    (["points 3", "fact a 01"], (1, 2)), (["points 3", "fact a 0,1"], (1, 2)), (["points 3", "fact a x"], (1, 2)),
    (["points 3", "fact a 0  1"], (1, 3)), (["points 999", "fact a 998"], None), (["points 999", "fact a 0998"], (1, 2)),
    (["points 3", "fact a 0 1 2"], None), (["points 3", "fact a", "fact a"], (2, 1)),
    (["points 3", "fact b", "fact a"], (2, 1)), (["points 3", "fact b", "fact ba"], None),
    (["points 3", "move"], (1, 1)), (["points 3", "move 0"], (1, 2)), (["points 3", "move 3 0"], (1, 1)),
    (["points 3", "move 0 "], (1, 2)), (["points 3", "move 0 3"], (1, 2)), (["points 3", "move 0 1 1"], (1, 3)),
    (["points 3", "move 0 2 1"], (1, 3)), (["points 3", "move 00 1"], (1, 1)), (["points 3", "move a 1"], (1, 1)),
    (["points 3", "move 0 0", "move 0 1"], (2, 1)), (["points 3", "move 1 0", "move 0 1"], (2, 1)),
    (["points 3", "move 0 0", "fact a"], (2, 0)), (["points 3", "hand ann 0,1,2", "fact a"], (2, 0)),
    (["points 3", "hand ann 0,1,2", "move 0 1"], (2, 0)), (["points 3", "hand ann 0,1,2", "points 3"], (2, 0)),
    (["points 3", "hand"], (1, 1)), (["points 3", "hand Ann 0,1,2"], (1, 1)), (["points 3", "hand ann"], (1, 2)),
    (["points 3", "hand ann 0"], (1, 3)), (["points 3", "hand ann 0 1"], (1, 4)), (["points 3", "hand ann 0 1 2"], None),
    (["points 3", "hand ann 1 2"], (1, 4)), (["points 3", "hand ann 2"], (1, 3)), (["points 3", "hand ann 1 0"], (1, 3)),
    (["points 3", "hand ann 1,2 0"], (1, 3)), (["points 3", "hand ann 0,2 1"], None),
    (["points 3", "hand ann 0,1 1,2"], (1, 3)), (["points 3", "hand ann 0,1 1"], (1, 3)),
    (["points 3", "hand ann 0,1 0,2"], (1, 3)), (["points 3", "hand ann 0,1,2 0"], (1, 3)),
    (["points 3", "hand ann 0,1,2 3"], (1, 3)), (["points 3", "hand ann 0,1,2 "], (1, 3)),
    (["points 3", "hand ann 1,0 2"], (1, 2)), (["points 3", "hand ann 0,0 1 2"], (1, 2)),
    (["points 3", "hand ann 0,1,3"], (1, 2)), (["points 3", "hand ann 0,,1 2"], (1, 2)),
    (["points 3", "hand ann 0, 1 2"], (1, 2)), (["points 3", "hand ann ,0 1 2"], (1, 2)),
    (["points 3", "hand ann 0,01 2"], (1, 2)), (["points 3", "hand ann  0,1,2"], (1, 2)),
    (["points 3", "hand ann 0,1,2", "hand ann 0,1,2"], (2, 1)), (["points 3", "hand bob 0,1,2", "hand ann 0,1,2"], (2, 1)),
    (["points 3", "hand ann 0,1,2", "hand bob 0,1"], (2, 3)),
    (["points 2", "fact a 2", "fact A"], (1, 2)), (["points 2", "nothing", "nothing"], (1, 0)),
)


def slow_figures(word):
    return word.isdigit() and len(word) < 4 and str(int(word)) == word


def slow_row(row, kept, many):
    """The first word of a row that can't stand there, None where all can; kept are the rows ahead."""
    words = row.split(" ")
    order = ("points", "fact", "move", "hand")
    last = kept[-1][0] if kept else None
    if words[0] not in order or (words[0] == "points") != (last is None):
        return 0
    if last and order.index(words[0]) < order.index(last):
        return 0
    if words[0] == "points":
        good = len(words) > 1 and slow_figures(words[1]) and words[1] != "0"
        return 1 if not good else 2 if len(words) > 2 else None
    firsts = [words_ahead[1] for words_ahead in kept if words_ahead[0] == words[0]]
    if len(words) < 2:
        return 1
    if words[0] == "move":
        if not slow_figures(words[1]) or int(words[1]) >= many or any(int(one) >= int(words[1]) for one in firsts):
            return 1
    elif not slow_name(words[1]) or any(one >= words[1] for one in firsts):
        return 1
    if words[0] == "hand":
        return slow_parts_row(words, many)
    for place in range(2, len(words)):
        points = words[2:place + 1]
        if not all(slow_figures(point) and int(point) < many for point in points):
            return place
        if sorted(set(map(int, points))) != list(map(int, points)):
            return place
    return 2 if words[0] == "move" and len(words) == 2 else None


def slow_parts_row(words, many):
    seen = []
    for place in range(2, len(words)):
        points = words[place].split(",")
        if not all(slow_figures(point) and int(point) < many for point in points):
            return place
        points = [int(point) for point in points]
        if sorted(set(points)) != points or set(points) & set(sum(seen, [])) or (seen and seen[-1] > points):
            return place
        seen.append(points)
    return None if sorted(sum(seen, [])) == list(range(many)) else len(words)


def slow_reading_of_world(rows):
    kept, many = [], 0
    for number, row in enumerate(rows):
        word = slow_row(row, kept, many)
        if word is not None:
            return (number, word)
        kept.append(row.split(" "))
        many = int(kept[0][1])
    return None if rows else (0, 0)


def spoiled_rows(chance, rows):
    rows = list(rows)
    place = chance.randrange(len(rows))
    way = chance.randrange(8)
    if way == 0:
        rows.pop(place)
    elif way == 1:
        rows.insert(place, rows[place])
    elif way == 2:
        other = chance.randrange(len(rows))
        rows[place], rows[other] = rows[other], rows[place]
    elif way == 3:
        rows.insert(place, chance.choice(("", "x", "fact", "move 0 0", "hand ann", "points 2", "fact d 0", "hand eve 0,1")))
    else:
        news = ("", "0", "1", "2", "3", "00", "01", "999", "1000", "0,1", "1,0", "a", "b", "ann", "fact", "-1", "0,", "2,3")
        rows[place] = spoiled_words(chance, rows[place], news)
    return rows


class WorldTextTest(unittest.TestCase):
    def refused(self, rows, where):
        with self.subTest(rows=rows):
            before = list(rows)
            with self.assertRaises(NoText) as caught:
                read_world(rows)
            self.assertEqual((caught.exception.row, caught.exception.word), where)
            self.assertEqual(rows, before)

    def test_written_and_read(self):
        self.assertEqual(shown_world(WORLD), ROWS)
        self.assertEqual(read_world(ROWS), WORLD)

    def test_one_point(self):
        for world, rows in (((((), ((),), ())), ["points 1"]), (((), ((0,),), ()), ["points 1", "move 0 0"]),
                            (((("a", ()),), ((),), (("ann", ((0,),)),)), ["points 1", "fact a", "hand ann 0"])):
            self.assertEqual(shown_world(world), rows)
            self.assertEqual(read_world(rows), world)

    def test_refused(self):
        for rows, where in REFUSED:
            self.assertEqual(slow_reading_of_world(rows), where, rows)
            if where is None:
                self.assertEqual(shown_world(read_world(rows)), rows)
            else:
                self.refused(rows, where)

    def test_random_worlds(self):
        chance = random.Random(22)
        for count in range(300):
            world = random_world(chance, chance.randint(1, 24))
            rows = shown_world(world)
            self.assertEqual(read_world(rows), world)
            self.assertEqual(rows[0], "points " + str(len(world[1])))
            self.assertIsNot(shown_world(world), rows)

    def test_spoiled_rows(self):
        chance = random.Random(23)
        found = {True: 0, False: 0}
        for count in range(6000):
            rows = shown_world(random_world(chance, chance.randint(1, 5)))
            for times in range(chance.choice((1, 1, 2))):
                rows = spoiled_rows(chance, rows) or [""]
            where = slow_reading_of_world(rows)
            found[where is None] += 1
            if where is None:
                world = read_world(rows)
                self.assertTrue(is_world(world))
                self.assertEqual(shown_world(world), rows)
            else:
                self.refused(rows, where)
        self.assertGreater(min(found.values()), 300)


if __name__ == "__main__":
    unittest.main()
