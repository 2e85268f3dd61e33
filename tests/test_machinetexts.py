"""Machines written and read: points [66] and [67]."""

import random
import unittest

from samplemachines import random_machine
from samples import slow_name, spoiled_words
from worldsay.errors import NoText
from worldsay.machines import is_machine
from worldsay.machinetexts import read_machine, shown_machine

ONE = ("num", 1)
N = ("box", "n")
MACHINE = (
    (("n", 0, 3, 1), ("m", -5, -1, -2)), (("ann", ()), ("bob", ("m", "n"))),
    ((("less", N, ("num", 3)), (("n", ("add", N, ONE)), ("m", ("num", -3)))), (ONE, ()), (("pick", N, ONE, ("box", "m")), (("m", N),))),
    (("a", ("same", N, ("num", 0))), ("b", ("times", ("sub", N, ONE), ("num", -1)))),
)
ROWS = ["box n 0 3 1", "box m -5 -1 -2", "hand ann", "hand bob m n", "deed less box n 3", "lay n add box n 1", "lay m -3", "deed 1",
        "deed pick box n 1 box m", "lay m box n", "fact a same box n 0", "fact b times sub box n 1 -1"]
BOX = "box n 0 3 1"
TWENTY = " ".join(["add"] * 8 + ["pick 1 1 1"] + ["1"] * 8)

# Rows, and the first row and word that can't stand there; None where they write a machine.
REFUSED = (
    ([], (0, 0)), ([""], (0, 0)), (["hand ann"], (0, 0)), (["deed 1"], (0, 0)), (["fact a 1"], (0, 0)), (["lay n 1"], (0, 0)),
    (["points 3"], (0, 0)), (["boxes n 0 1 0"], (0, 0)), ([" box n 0 1 0"], (0, 0)),
    (["box"], (0, 1)), (["box n"], (0, 2)), (["box n 0"], (0, 3)), (["box n 0 3"], (0, 4)), (["box n 0 3 1 1"], (0, 5)),
    (["box N 0 3 1"], (0, 1)), (["box  0 3 1"], (0, 1)), (["box n a 3 1"], (0, 2)), (["box n 00 3 1"], (0, 2)),
    (["box n -0 3 1"], (0, 2)), (["box n 01 3 1"], (0, 2)), (["box n -01 3 1"], (0, 2)), (["box n - 3 1"], (0, 2)),
    (["box n --1 3 1"], (0, 2)), (["box n +1 3 1"], (0, 2)), (["box n 1000 3 1"], (0, 2)), (["box n -1000 3 1"], (0, 2)),
    (["box n -999 999 0"], None), (["box n 999 999 999"], None), (["box n 0 1000 1"], (0, 3)), (["box n 0 x 1"], (0, 3)),
    (["box n 3 2 3"], (0, 3)), (["box n 3 3 3"], None), (["box n 0 3 4"], (0, 4)), (["box n 0 3 -1"], (0, 4)),
    (["box n 0 3 1 "], (0, 5)), (["box n 0  3 1"], (0, 3)), ([BOX, "box n 0 1 0"], (1, 1)), ([BOX, ""], (1, 0)),
    ([BOX, "lay n 1"], (1, 0)), ([BOX, "points 3"], (1, 0)), ([BOX, "box a 0 1 0"], None),
    ([f"box {name} 0 1 0" for name in "abcdef"], None), ([f"box {name} 0 1 0" for name in "abcdefg"], (6, 0)),
    ([BOX, "hand"], (1, 1)), ([BOX, "hand Ann"], (1, 1)), ([BOX, "hand ann"], None), ([BOX, "hand ann "], (1, 2)),
    ([BOX, "hand ann k"], (1, 2)), ([BOX, "hand ann n n"], (1, 3)), ([BOX, "hand ann n k"], (1, 3)),
    ([BOX, "box m 0 1 0", "hand ann n m"], (2, 3)), ([BOX, "box m 0 1 0", "hand ann m n"], None),
    ([BOX, "hand ann", "hand ann"], (2, 1)), ([BOX, "hand bob", "hand ann"], (2, 1)), ([BOX, "hand ann", "box m 0 1 0"], (2, 0)),
    ([BOX] + [f"hand {name}" for name in "abcd"], None), ([BOX] + [f"hand {name}" for name in "abcde"], (5, 0)),
    ([BOX, "hand ann", "lay n 1"], (2, 0)), ([BOX, "deed"], (1, 1)), ([BOX, "deed 1"], None), ([BOX, "deed 1 1"], (1, 2)),
    ([BOX, "deed x"], (1, 1)), ([BOX, "deed box"], (1, 2)), ([BOX, "deed box k"], (1, 2)), ([BOX, "deed box n n"], (1, 3)),
    ([BOX, "deed num 1"], (1, 1)), ([BOX, "deed add"], (1, 2)), ([BOX, "deed add 1"], (1, 3)), ([BOX, "deed add 1 1"], None),
    ([BOX, "deed add 1 1 1"], (1, 4)), ([BOX, "deed pick 1 1"], (1, 4)), ([BOX, "deed pick 1 1 1"], None),
    ([BOX, "deed less 1 n"], (1, 3)), ([BOX, "deed 1000"], (1, 1)), ([BOX, "deed -1000"], (1, 1)), ([BOX, "deed add 1 -1000"], (1, 3)), ([BOX, "deed -999"], None), ([BOX, "deed 007"], (1, 1)),
    ([BOX, "deed add -0 1"], (1, 2)), ([BOX, "deed add  1 1"], (1, 2)), ([BOX, "deed 1 "], (1, 2)), ([BOX, "deed "], (1, 1)),
    ([BOX, "deed 1", "hand ann"], (2, 0)), ([BOX, "deed 1", "box m 0 1 0"], (2, 0)), ([BOX, "deed 1", "lay"], (2, 1)),
    ([BOX, "deed 1", "lay n"], (2, 2)), ([BOX, "deed 1", "lay k 1"], (2, 1)), ([BOX, "deed 1", "lay n 1"], None),
    ([BOX, "deed 1", "lay n 1", "lay n 2"], (3, 1)), ([BOX, "deed 1", "lay n 1", "deed 1", "lay n 2"], None),
    ([BOX, "deed 1", "lay n 1 1"], (2, 3)), ([BOX, "deed 1", "lay n x"], (2, 2)), ([BOX, "deed 1", "lay n box m"], (2, 3)),
    ([BOX] + ["deed 1"] * 60, None), ([BOX] + ["deed 1"] * 61, (61, 0)), ([BOX] + ["deed 1", "lay n 1"] * 60 + ["deed 1"], (121, 0)),
    ([BOX, "fact"], (1, 1)), ([BOX, "fact A 1"], (1, 1)), ([BOX, "fact a"], (1, 2)), ([BOX, "fact a 1"], None),
    ([BOX, "fact a 1", "fact a 1"], (2, 1)), ([BOX, "fact b 1", "fact a 1"], (2, 1)), ([BOX, "fact a 1 1"], (1, 3)),
    ([BOX, "fact a 1", "deed 1"], (2, 0)), ([BOX, "fact a 1", "lay n 1"], (2, 0)), ([BOX, "fact a 1", "box m 0 1 0"], (2, 0)),
    ([BOX] + [f"fact {name} 1" for name in "abcdefgh"], None), ([BOX] + [f"fact {name} 1" for name in "abcdefghi"], (9, 0)),
    ([BOX, "deed " + TWENTY], None), ([BOX, "deed add " + TWENTY], (1, 21)), ([BOX, "deed add " + TWENTY + " 1"], (1, 21)),
    ([BOX, "deed 1", "lay n " + TWENTY], None), ([BOX, "fact a add " + TWENTY], (1, 22)),
    ([BOX, "fact a " + TWENTY.replace("1", "box n")], None), ([BOX, "fact a " + " ".join(["add"] * 21)], (1, 22)),
    ([BOX, "deed x", "box x"], (1, 1)),
)


class Refused(Exception):
    """The place of the first word that can't stand there."""


def slow_reading_of_machine(rows):
    """The first row and word that can't stand there, None where the rows write a machine."""
    kept = []
    for number, row in enumerate(rows):
        words = row.split(" ")
        try:
            slow_machine_row(words, kept)
        except Refused as refusal:
            return (number, refusal.args[0])
        kept.append(words)
    return None if rows else (0, 0)


def slow_number(word):
    try:
        return -999 <= int(word) <= 999 and str(int(word)) == word
    except ValueError:
        return False


def slow_machine_row(words, kept):
    heads = [row[0] for row in kept]
    order = {"box": 0, "hand": 1, "deed": 2, "lay": 2, "fact": 3}
    boxes = [row[1] for row in kept if row[0] == "box"]
    same = [row[1] for row in kept if row[0] == words[0]]

    def want(place, good):
        if place >= len(words) or not good(words[place]):
            raise Refused(place)
    want(0, lambda word: word in order and (kept or word == "box") and all(order[head] <= order[word] for head in heads)
         and (word != "lay" or heads[-1] in ("deed", "lay")) and heads.count(word) < {"box": 6, "hand": 4, "deed": 60, "fact": 8}.get(word, 999))
    if words[0] == "box":
        want(1, lambda word: slow_name(word) and word not in boxes)
        want(2, slow_number)
        want(3, lambda word: slow_number(word) and int(word) >= int(words[2]))
        want(4, lambda word: slow_number(word) and int(words[2]) <= int(word) <= int(words[3]))
        end = 5
    elif words[0] == "hand":
        want(1, lambda word: slow_name(word) and all(word > name for name in same))
        for place in range(2, len(words)):
            want(place, lambda word: word in boxes and all(word > name for name in words[2:place]))
        end = len(words)
    else:
        end = 1
        if words[0] == "lay":
            last = max(place for place, head in enumerate(heads) if head == "deed")
            want(1, lambda word: word in boxes and word not in [row[1] for row in kept[last + 1:]])
            end = 2
        if words[0] == "fact":
            want(1, lambda word: slow_name(word) and all(word > name for name in same))
            end = 2
        awaited, many = 1, 0
        while awaited:
            want(end, lambda word: many < 20 and (slow_number(word) or word in ("box", "add", "sub", "times", "less", "same", "pick")))
            many += 1
            awaited += {"pick": 2, "box": -1}.get(words[end], -1 if slow_number(words[end]) else 1)
            if words[end] == "box":
                end += 1
                want(end, lambda word: word in boxes)
            end += 1
    if len(words) > end:
        raise Refused(end)


def spoiled_rows(chance, rows):
    rows = list(rows)
    place = chance.randrange(len(rows))
    way = chance.randrange(8)
    if way == 0:
        rows.pop(place)
    elif way == 1:
        rows.insert(place, rows[place])
    elif way == 2:
        other = chance.randrange(len(rows))
        rows[place], rows[other] = rows[other], rows[place]
    elif way == 3:
        rows.insert(place, chance.choice(("", "x", "fact", "lay n 1", "hand zed", "deed 1", "fact zed 1", "box q 0 1 0")))
    else:
        news = ("", "0", "1", "-1", "-0", "00", "999", "1000", "n", "m", "zz", "box", "add", "pick", "ann", "a", "lay", "-", "2,3")
        rows[place] = spoiled_words(chance, rows[place], news)
    return rows


class MachineTextTest(unittest.TestCase):
    def refused(self, rows, where):
        with self.subTest(rows=rows):
            before = list(rows)
            with self.assertRaises(NoText) as caught:
                read_machine(rows)
            self.assertEqual((caught.exception.row, caught.exception.word), where)
            self.assertEqual(rows, before)

    def test_written_and_read(self):
        self.assertTrue(is_machine(MACHINE))
        self.assertEqual(shown_machine(MACHINE), ROWS)
        self.assertEqual(read_machine(ROWS), MACHINE)

    def test_refused(self):
        for rows, where in REFUSED:
            self.assertEqual(slow_reading_of_machine(rows), where, rows)
            if where is None:
                self.assertTrue(is_machine(read_machine(rows)))
                self.assertEqual(shown_machine(read_machine(rows)), rows)
            else:
                self.refused(rows, where)

    def test_names_like_words(self):
        rows = ["box box 0 1 0", "box add 0 1 0", "hand hand add box", "deed add box box box add", "lay add box add", "fact fact box box"]
        self.assertEqual(shown_machine(read_machine(rows)), rows)

    def test_random_machines(self):
        chance = random.Random(92)
        for count in range(500):
            told = random_machine(chance)
            rows = shown_machine(told)
            self.assertIsNone(slow_reading_of_machine(rows))
            self.assertEqual(read_machine(rows), told)
            self.assertIsNot(shown_machine(told), rows)

    def test_spoiled_rows(self):
        chance = random.Random(93)
        found = {True: 0, False: 0}
        for count in range(5000):
            rows = shown_machine(random_machine(chance))
            for times in range(chance.choice((1, 1, 2))):
                rows = spoiled_rows(chance, rows) or [""]
            where = slow_reading_of_machine(rows)
            found[where is None] += 1
            if where is None:
                told = read_machine(rows)
                self.assertTrue(is_machine(told))
                self.assertEqual(shown_machine(told), rows)
            else:
                self.refused(rows, where)
        self.assertGreater(min(found.values()), 300)


if __name__ == "__main__":
    unittest.main()
