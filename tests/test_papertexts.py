"""Papers written and read: point [71]."""

import random
import unittest

from samples import random_sentence, random_world, spoiled_words, winding_sentence, winding_world
from slowpapers import Slow
from worldsay.answering import answered
from worldsay.errors import NoText
from worldsay.papertexts import read_paper, shown_paper

PAPER = ((0, 1, True, (), None), (12, 0, False, (3, 0, 17), 5), (3, 23, True, (0,), 0))
TEXTS = ["0 1 yes - -", "12 0 no 3,0,17 5", "3 23 yes 0 0"]
GOOD = "0 0 yes - -"

# Texts, and the first row and word that is not as told; None where they write a paper.
REFUSED = (
    ([], None), ([""], (0, 0)), (["0"], (0, 1)), (["0 0"], (0, 2)), (["0 0 yes"], (0, 3)), (["0 0 yes -"], (0, 4)), ([GOOD], None),
    ([GOOD + " -"], (0, 5)), ([GOOD + " "], (0, 5)), ([" " + GOOD], (0, 0)), (["0  0 yes - -"], (0, 1)), (["- 0 yes - -"], (0, 0)),
    (["00 0 yes - -"], (0, 0)), (["01 0 yes - -"], (0, 0)), (["-1 0 yes - -"], (0, 0)), (["x 0 yes - -"], (0, 0)),
    (["999999999 0 yes - -"], None), (["1000000000 0 yes - -"], (0, 0)), (["0 999999999 yes - -"], None), (["0 1234567890 yes - -"], (0, 1)),
    (["0 -1 yes - -"], (0, 1)), (["0 0 Yes - -"], (0, 2)), (["0 0 True - -"], (0, 2)), (["0 0 - - -"], (0, 2)), (["0 0 no - -"], None),
    (["0 0 yes 0 -"], None), (["0 0 yes 0,0 -"], None), (["0 0 yes 0, -"], (0, 3)), (["0 0 yes ,0 -"], (0, 3)), (["0 0 yes , -"], (0, 3)),
    (["0 0 yes 00 -"], (0, 3)), (["0 0 yes 1,-1 -"], (0, 3)), (["0 0 yes -,- -"], (0, 3)), (["0 0 yes 1234567890 -"], (0, 3)),
    (["0 0 yes 999999999,999999999 -"], None), (["0 0 yes 0,0,0,0,0,0,0,0 -"], None), (["0 0 yes - 0"], None), (["0 0 yes - 00"], (0, 4)),
    (["0 0 yes - -1"], (0, 4)), (["0 0 yes - 999999999"], None), (["0 0 yes - 1000000000"], (0, 4)), (["0 0 yes - x"], (0, 4)),
    (["0 0 yes - None"], (0, 4)), ([GOOD, GOOD], None), ([GOOD, "x"], (1, 0)), (["0 0 yes - x", "x"], (0, 4)), ([GOOD, ""], (1, 0)),
    (["0 0 maybe - - -"], (0, 2)), (["0 0 yes - x -"], (0, 4)),
)


def slow_figures(word):
    return word.isdigit() and len(word) < 10 and str(int(word)) == word


def slow_reading_of_paper(texts):
    sorts = (slow_figures, slow_figures, lambda word: word in ("yes", "no"),
             lambda word: word == "-" or all(map(slow_figures, word.split(","))), lambda word: word == "-" or slow_figures(word))
    for number, text in enumerate(texts):
        words = text.split(" ")
        for place in range(max(len(words), 5)):
            if place >= 5 or place >= len(words) or not sorts[place](words[place]):
                return (number, place)
    return None


class PaperTextTest(unittest.TestCase):
    def refused(self, texts, where):
        with self.subTest(texts=texts):
            before = list(texts)
            with self.assertRaises(NoText) as caught:
                read_paper(texts)
            self.assertEqual((caught.exception.row, caught.exception.word), where)
            self.assertEqual(texts, before)

    def test_written_and_read(self):
        self.assertEqual(shown_paper(PAPER), TEXTS)
        self.assertEqual(read_paper(TEXTS), PAPER)
        self.assertEqual(shown_paper(()), [])
        self.assertEqual(read_paper([]), ())

    def test_kinds(self):
        row = read_paper(["1 1 yes 1 1"])[0]
        self.assertEqual([type(part) for part in row], [int, int, bool, tuple, int])
        self.assertIs(read_paper(["1 1 no - -"])[0][2], False)

    def test_refused(self):
        for texts, where in REFUSED:
            self.assertEqual(slow_reading_of_paper(texts), where, texts)
            if where is None:
                self.assertEqual(shown_paper(read_paper(texts)), texts)
            else:
                self.refused(texts, where)

    def test_great_ranks_are_written(self):
        self.assertEqual(shown_paper(((0, 0, True, (10 ** 50,), 10 ** 50),)), [f"0 0 yes {10 ** 50} {10 ** 50}"])

    def test_papers(self):
        chance = random.Random(97)
        for count in range(200):
            world, sentence = chance.choice(((random_world(chance, 4), random_sentence(chance, 12)),
                                             (winding_world(chance, 5), winding_sentence(chance))))
            paper = answered(world, sentence, 0)[1]
            self.assertEqual(read_paper(shown_paper(paper)), paper)
            other = Slow(world, sentence).other_paper(chance)
            self.assertEqual(read_paper(shown_paper(other)), other)

    def test_spoiled_texts(self):
        chance = random.Random(98)
        news = ("", "0", "1", "00", "yes", "no", "-", "1,2", "1,", "x", "-1", "1234567890", "999999999")
        found = {True: 0, False: 0}
        for count in range(3000):
            texts = shown_paper(chance.sample(PAPER, chance.randint(1, 3)))
            place = chance.randrange(len(texts))
            texts[place] = spoiled_words(chance, texts[place], news)
            where = slow_reading_of_paper(texts)
            found[where is None] += 1
            if where is None:
                self.assertEqual(shown_paper(read_paper(texts)), texts)
            else:
                self.refused(texts, where)
        self.assertGreater(min(found.values()), 200)


if __name__ == "__main__":
    unittest.main()
