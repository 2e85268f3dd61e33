"""Desks: points [72], [73] and [74], and over them [7]."""

import random
import unittest

from samplemachines import random_machine, slow_states
from samples import random_plain, random_sentence, random_world, roomy_sentence, spoiled_words, winding_sentence, winding_world
from slowpapers import Slow, greater_ranks
from test_mending import random_change
from worldsay.answering import answered
from worldsay.checking import lets
from worldsay.desk import Desk
from worldsay.errors import NoChange, NoLine, NoPaper, NoPoint, NoTruth, NoWorld, TooMany, WorldError
from worldsay.judging import holds
from worldsay.machines import world_of
from worldsay.machinetexts import shown_machine
from worldsay.mending import changed
from worldsay.papertexts import read_paper, shown_paper
from worldsay.plaintexts import shown_plain
from worldsay.plainwords import cored
from worldsay.sentencetexts import shown_sentence
from worldsay.showing import said
from worldsay.small import small
from worldsay.worldtexts import read_world, shown_world

TOLD = "points 3; fact a 1 2; move 0 1; move 1 2; hand ann 0,1 2; hand bob 0 1,2"
COUNTER = "box n 0 2 0; hand ann; deed 1; lay n add box n 1; fact top same box n 2"
TOO_GREAT = "box n 0 99 0; deed 1; lay n add box n 1"

# Rows that are none, whatever world there is.
NO_LINES = (
    "", " ", "world ", "world -", "world x", "world points 3;fact a", "world points 3 ; fact a", "world points 3; ", "World", " world",
    "world points 0", "worlds", "machine", "machine ", "machine -", "machine points 3", "machine box n 0 2 3", "holds", "holds ",
    "holds a", "holds fact a ", "holds  fact a", "holds fact A", "holds knows ann fact a", "holds wish x", "plain", "plain ", "plain a",
    "plain some on fact a", "plain least x fact a", "ask", "ask ", "ask 0", "ask 0 ", "ask fact a", "ask x fact a", "ask 00 fact a",
    "ask 01 fact a", "ask -1 fact a", "ask 1000 fact a", "ask 0 a", "ask 0  fact a", "ask 0 fact a : -", "check", "check 0 yes fact a",
    "check 0 yes fact a : ", "check 0 yes fact a :", "check 0 yes fact a: -", "check 0 Yes fact a : -", "check 0 fact a : -",
    "check yes fact a : -", "check 00 yes fact a : -", "check 0 yes a : -", "check 0 yes fact a : x", "check 0 yes fact a : - : -",
    "check 0 yes fact a : 0 0 yes -", "check 0 yes fact a : 0 0 yes - -;0 0 yes - -", "check 0 yes fact a : 0 0 yes - -; ",
    "check 0 yes fact a : 0 0 yes 1234567890 -", "say", "say 0", "say 0 ann", "say 0 fact a", "say ann fact a", "say 0 Ann fact a",
    "say 0 bob,ann fact a", "say 0 ann,ann fact a", "say 0 a,b,c,d,e fact a", "say 0 ann a", "say 00 ann fact a", "say 0 ann, fact a",
    "change", "change ", "change fact a", "change fact A 0", "change fact a 00", "change fact a x", "change fact a 0 1", "change fact a -1",
    "change move 0", "change move 0 x", "change move 0 1 2", "change move 0,1", "change move a 0", "change split ann", "change split ann ",
    "change split ann -", "change split Ann 0", "change split ann 0,", "change split ann 0 1", "change split ann 0,01", "change split ann ,",
    "change join ann 0", "change join ann 0 x", "change join Ann 0 1", "change join ann 0 1 2", "change turn a 0", "change  fact a 0",
    "change fact a 1000", "mend", "mend 0 no fact a : 0 0 no - -", "mend 0 no fact a : 0 0 no - - : ", "mend 0 no fact a : change fact a 0",
    "mend 0 no fact a : 0 0 no - - : change fact a 0", "mend 0 no fact a : 0 0 no - - : fact a", "mend 0 no fact a : fact a 0 : 0 0 no - -",
    "mend 0 maybe fact a : - : fact a 0", "mend 0 no fact a : - : fact a 0 : -", "small ", "small x", "nothing", "points 3", "yes",
    "hold fact a", "ASK 0 fact a", "ask 0 fact a\n", "holds fact a; fact b",
)


class DeskTest(unittest.TestCase):
    def desk(self, told=TOLD):
        desk = Desk()
        if told:
            self.assertEqual(desk.say("world " + told), "points " + told.split(";")[0].split(" ")[1])
        return desk

    def refused(self, desk, row, refusal):
        """A row is refused, and nothing is changed by it."""
        with self.subTest(row=row):
            before = self.kept(desk)
            with self.assertRaises(WorldError) as caught:
                desk.say(row)
            self.assertIs(type(caught.exception), refusal, row)
            self.assertEqual(self.kept(desk), before)
            return caught.exception

    def kept(self, desk):
        try:
            return desk.say("world")
        except NoWorld:
            return None

    def test_worlds(self):
        desk = Desk()
        self.assertEqual(desk.say("world " + TOLD), "points 3")
        self.assertEqual(desk.say("world"), TOLD)
        self.assertEqual(desk.say("world points 1"), "points 1")
        self.assertEqual(desk.say("world"), "points 1")

    def test_machines(self):
        desk = Desk()
        self.assertEqual(desk.say("machine " + COUNTER), "points 3")
        self.assertEqual(desk.say("world"), "points 3; fact top 2; move 0 1; move 1 2; move 2 2; hand ann 0,1,2")
        self.refused(desk, "machine " + TOO_GREAT, TooMany)
        self.refused(Desk(), "machine " + TOO_GREAT, TooMany)

    def test_holds(self):
        desk = self.desk()
        self.assertEqual(desk.say("holds fact a"), "1,2")
        self.assertEqual(desk.say("holds every one ann fact a"), "2")
        self.assertEqual(desk.say("holds fact none"), "-")
        self.assertEqual(desk.say("holds not fact none"), "0,1,2")

    def test_plain(self):
        for desk in (Desk(), self.desk()):
            self.assertEqual(desk.say("plain sometime knows ann fact a"), "least a or every one ann fact a some on wish a")
            self.refused(desk, "plain " + "sometime " * 5 + "fact a", TooMany)

    def test_ask_and_check(self):
        desk = self.desk()
        self.assertEqual(desk.say("ask 0 fact a"), "no : 0 0 no - -")
        self.assertEqual(desk.say("ask 1 fact a"), "yes : 0 1 yes - -")
        sentence = "least x or every one ann fact a some on wish x"
        answer = desk.say("ask 0 " + sentence)
        self.assertTrue(answer.startswith("yes : "))
        rows = answer[len("yes : "):]
        self.assertEqual(desk.say(f"check 0 yes {sentence} : {rows}"), "let by")
        self.assertEqual(desk.say(f"check 0 no {sentence} : {rows}"), "not")
        self.assertEqual(desk.say(f"check 1 yes {sentence} : {'; '.join(rows.split('; ')[1:])}"), "not")
        self.assertEqual(desk.say(f"check 0 yes {sentence} : -"), "not")
        # Whatever claims and ranks it tells, and whatever points: its own.
        for row in ("0 9 no - -", "9 0 no - -", "0 0 no 1 -", "0 0 no - 7", "0 0 yes - -", "0 999999999 no - -"):
            self.assertEqual(desk.say("check 0 no fact a : " + row), "not")
        self.assertEqual(desk.say("check 0 no fact a : 0 0 no - -"), "let by")
        self.assertEqual(desk.say("check 0 no fact a : 0 0 no - -; 0 1 yes - -"), "let by")
        self.assertEqual(desk.say("check 0 no fact a : 0 0 no - -; 0 0 no - -"), "not")

    def test_say(self):
        desk = self.desk()
        self.assertEqual(desk.say("say 1 ann fact a"), "ok")
        self.assertEqual(desk.say("world"), "points 3; fact a 1 2; move 0 1; move 1 2; hand ann 0 1 2; hand bob 0 1,2")
        self.assertEqual(self.refused(desk, "say 0 ann fact a", NoTruth).place, 0)
        self.assertEqual(desk.say("say 0 eve,fay not fact a"), "ok")

    def test_change(self):
        desk = self.desk()
        for change, row in (("fact a 0", "fact a 0 1 2"), ("fact b 2", "fact b 2"), ("move 0 2", "move 0 1 2"), ("move 0 1", "move 0 2"),
                            ("split ann 0", "hand ann 0 1 2"), ("join ann 2 0", "hand ann 0,2 1"), ("join cid 0 1", "hand cid 0,1 2"),
                            ("split bob 1", "hand bob 0 1 2"), ("split eve 0,1,2", "points 3")):
            self.assertEqual(desk.say("change " + change), "ok")
            self.assertIn(row, desk.say("world").split("; "))
        self.refused(desk, "change split ann 1,0", NoChange)
        self.refused(desk, "change split ann 1,1", NoChange)
        self.refused(desk, "change split eve 2,0", NoChange)

    def test_mend(self):
        desk = self.desk()
        sentence = "least x or every one ann fact a some on wish x"
        rows = desk.say("ask 0 " + sentence)[len("yes : "):]
        answer = desk.say(f"mend 0 yes {sentence} : {rows} : move 1 2")
        self.assertTrue(answer.startswith("no : "))
        self.assertEqual(desk.say("world"), TOLD.replace("move 1 2; ", ""))
        self.assertEqual(desk.say(f"check 0 no {sentence} : {answer[len('no : '):]}"), "let by")
        # What stays let by is told itself.
        again = desk.say(f"mend 0 no {sentence} : {answer[len('no : '):]} : fact b 0")
        self.assertEqual(again, answer)
        self.assertIn("fact b 0", desk.say("world"))
        self.refused(desk, f"mend 0 yes {sentence} : {rows} : move 1 2", NoPaper)
        self.refused(desk, f"mend 0 yes {sentence} : - : move 1 2", NoPaper)
        self.refused(desk, f"mend 0 yes {sentence} : - : split ann 1,0", NoPaper)
        self.refused(desk, f"mend 0 no {sentence} : {answer[len('no : '):]} : split ann 1,0", NoChange)

    def test_a_paper_that_stays_let_by_is_told_itself(self):
        desk = self.desk()
        sentence = "least x or fact a some on wish x"
        # Greater ranks and more rows than an own answer has.
        rows = ("4 1 yes 70 -; 1 0 yes 70 3; 3 0 yes 70 1; 0 0 yes - -; 1 1 yes 12 2; 2 1 yes 12 -; 2 0 no 0 -; 0 1 yes - -")
        self.assertEqual(desk.say(f"check 0 yes {sentence} : {rows}"), "let by")
        self.assertEqual(desk.say(f"mend 0 yes {sentence} : {rows} : move 2 0"), "yes : " + rows)
        # What is kept stands there as it was, ranks and all; what is fresh has greater ones.
        told = desk.say(f"mend 0 yes {sentence} : {rows} : move 0 2")
        self.assertEqual(told, "yes : " + rows)
        told = desk.say(f"mend 0 yes {sentence} : {rows} : move 0 1")
        self.assertTrue(told.startswith("yes : "))
        self.assertNotIn("4 1 yes 70 -", told)
        self.assertEqual(desk.say(f"check 0 yes {sentence} : {told[len('yes : '):]}"), "let by")

    def test_small(self):
        desk = self.desk("points 4; fact a 0 2; move 0 1; move 1 2; move 2 3; move 3 0; hand ann 0,1,2,3")
        before = desk.say("world")
        self.assertEqual(desk.say("small"), "points 2; fact a 0; move 0 1; move 1 0; hand ann 0,1")
        self.assertEqual(desk.say("world"), before)

    def test_rows_that_are_none(self):
        for desk in (Desk(), self.desk(), self.desk("points 1")):
            for row in NO_LINES:
                self.refused(desk, row, NoLine)

    def test_no_world(self):
        desk = Desk()
        for row in ("world", "holds fact a", "ask 0 fact a", "ask 999 fact a", "check 0 yes fact a : -", "say 0 ann fact a",
                    "change fact a 0", "change split ann 1,0", "mend 0 yes fact a : - : fact a 0", "small"):
            self.refused(desk, row, NoWorld)
        # A row that is none is refused as such, world or not.
        self.refused(desk, "ask 0 a", NoLine)
        self.refused(desk, "world points 0", NoLine)
        self.refused(desk, "machine " + TOO_GREAT, TooMany)
        self.refused(desk, "world", NoWorld)
        self.refused(desk, "plain " + "sometime " * 5 + "fact a", TooMany)

    def test_no_point(self):
        desk = self.desk()
        for row in ("ask 3 fact a", "ask 999 fact a", "check 3 yes fact a : -", "say 3 ann fact a", "change fact a 3", "change move 3 0",
                    "change move 0 3", "change split ann 3", "change split ann 0,3", "change split ann 3,0", "change split eve 3",
                    "change join ann 0 3", "change join ann 3 0", "mend 3 yes fact a : - : fact a 0", "mend 0 yes fact a : - : fact a 3",
                    "mend 0 no fact a : 0 0 no - - : split ann 0,3", "mend 0 yes fact a : - : move 0 3", "say 3 ann fact none"):
            self.refused(desk, row, NoPoint)
        self.refused(desk, "ask 3 a", NoLine)
        self.refused(desk, "check 3 yes fact a : x", NoLine)
        self.refused(desk, "mend 3 yes fact a : x : fact a 0", NoLine)

    def test_two_desks(self):
        one, other = self.desk(), self.desk("points 1")
        one.say("change fact a 0")
        self.assertEqual(other.say("world"), "points 1")
        self.assertEqual(self.refused(other, "ask 1 fact a", NoPoint).args, ())
        third = Desk()
        self.refused(third, "world", NoWorld)

    def test_random_desks(self):
        chance = random.Random(99)
        for count in range(150):
            desk = Desk()
            world = chance.choice((random_world, winding_world))(chance, chance.choice((1, 3, 5)))
            self.assertEqual(desk.say("world " + "; ".join(shown_world(world))), f"points {len(world[1])}")
            for times in range(8):
                world = self.one_row(chance, desk, world)
                self.assertEqual(desk.say("world"), "; ".join(shown_world(world)))

    def one_row(self, chance, desk, world):
        """Says any row to a desk that has this world; the world behind it."""
        sentence = chance.choice((lambda: random_sentence(chance, 8), lambda: roomy_sentence(chance, 4), lambda: winding_sentence(chance)))()
        text, point = shown_sentence(sentence), chance.randrange(len(world[1]))
        truth = point in holds(world, sentence)
        word = "yes" if truth else "no"
        sort = chance.choice(("holds", "ask", "check", "say", "change", "mend", "small", "plain"))
        if sort == "holds":
            self.assertEqual(desk.say("holds " + text), ",".join(map(str, holds(world, sentence))) or "-")
        elif sort == "ask":
            told = desk.say(f"ask {point} {text}")
            self.assertTrue(told.startswith(word + " : "))
            self.assertTrue(lets(world, sentence, point, truth, read_paper(told[len(word) + 3:].split("; "))))
        elif sort == "check":
            self.check_row(chance, desk, world, sentence, point, truth)
        elif sort == "say":
            if truth:
                self.assertEqual(desk.say(f"say {point} ann,bob {text}"), "ok")
                return said(world, point, [(("ann", "bob"), sentence)])
            self.refused(desk, f"say {point} ann,bob {text}", NoTruth)
        elif sort in ("change", "mend"):
            return self.change_row(chance, desk, world, sentence, point, sort)
        elif sort == "small":
            self.assertEqual(desk.say("small"), "; ".join(shown_world(small(world)[0])))
        else:
            plain = random_plain(chance, chance.choice((3, 9)))
            try:
                self.assertEqual(desk.say("plain " + shown_plain(plain)), shown_sentence(cored(plain)))
            except TooMany:
                self.refused(desk, "plain " + shown_plain(plain), TooMany)
        return world

    def check_row(self, chance, desk, world, sentence, point, truth):
        """Right papers, own and of others, are let by; spoiled ones just where the small checker lets them by."""
        slow = Slow(world, sentence)
        text, word = shown_sentence(sentence), "yes" if truth else "no"
        own = answered(world, sentence, point)[1]
        for paper in (own, slow.other_paper(chance), greater_ranks(slow, own, 7, 10 ** 6)):
            rows = shown_paper(paper)
            self.assertEqual(desk.say(f"check {point} {word} {text} : {'; '.join(rows)}"), "let by")
            self.assertEqual(desk.say(f"check {point} {'no' if truth else 'yes'} {text} : {'; '.join(rows)}"), "not")
            place = chance.randrange(len(rows))
            rows[place] = spoiled_words(chance, rows[place], ("0", "1", "2", "yes", "no", "-", "1,1"))
            try:
                wanted = "let by" if slow.lets(point, truth, read_paper(rows)) else "not"
            except WorldError:
                self.refused(desk, f"check {point} {word} {text} : {'; '.join(rows)}", NoLine)
                continue
            self.assertEqual(desk.say(f"check {point} {word} {text} : {'; '.join(rows) or '-'}"), wanted)

    def change_row(self, chance, desk, world, sentence, point, sort):
        change = random_change(chance, world)
        if change[0] == "split" and not change[2]:
            return world
        words = " ".join(",".join(map(str, part)) if isinstance(part, tuple) else str(part) for part in change)
        behind = changed(world, change)
        if sort == "change":
            self.assertEqual(desk.say("change " + words), "ok")
            return behind
        truth, paper = answered(world, sentence, point)
        text = f"{point} {'yes' if truth else 'no'} {shown_sentence(sentence)} : {'; '.join(shown_paper(paper))} : {words}"
        told = desk.say("mend " + text)
        word, rows = told.split(" : ")
        self.assertEqual(word == "yes", point in holds(behind, sentence))
        self.assertTrue(lets(behind, sentence, point, word == "yes", read_paper(rows.split("; "))))
        return behind

    def test_random_machines(self):
        chance = random.Random(100)
        for count in range(100):
            told = random_machine(chance, chance.choice((1, 2)))
            desk = Desk()
            row = "machine " + "; ".join(shown_machine(told))
            if len(slow_states(told)) > 60:
                self.refused(desk, row, TooMany)
            else:
                self.assertEqual(desk.say(row), f"points {len(slow_states(told))}")
                self.assertEqual(read_world(desk.say("world").split("; ")), world_of(told)[0])

    def test_any_text(self):
        chance = random.Random(101)
        rows = ["world " + TOLD, "machine " + COUNTER, "holds fact a", "ask 0 fact a", "check 0 no fact a : 0 0 no - -",
                "say 1 ann fact a", "change move 0 1", "mend 0 no fact a : 0 0 no - - : fact a 0", "small", "plain knows ann fact a", "world"]
        news = ("", ":", "-", "0", "9", "fact", "a", ";", "world", "ann", "yes", "; ", " : ")
        for count in range(3000):
            desk = Desk() if chance.random() < 0.2 else self.desk()
            row = spoiled_words(chance, chance.choice(rows), news)
            if chance.random() < 0.3:
                place = chance.randrange(len(row) + 1)
                row = row[:place] + chance.choice((" ", ";", ":", ",", "~", "a", "0")) + row[place:]
            before = self.kept(desk)
            try:
                self.assertIs(type(desk.say(row)), str)
            except WorldError as refusal:
                self.assertIn(type(refusal), (NoLine, NoWorld, NoPoint, NoTruth, NoChange, NoPaper, TooMany))
                self.assertEqual(self.kept(desk), before)


if __name__ == "__main__":
    unittest.main()
