"""Plain sentences written and read: points [15], [16] and [22]."""

import random
import unittest

from samples import PLAIN_FORMS, random_plain, slow_reading, spoiled_words
from worldsay.errors import NoText
from worldsay.plaintexts import read_plain, shown_plain
from worldsay.plainwords import is_plain

A, B = ("fact", "a"), ("fact", "b")

PAIRS = (
    ("fact a", A), ("not fact a", ("not", A)), ("and fact a fact b", ("and", A, B)), ("or fact a fact b", ("or", A, B)),
    ("knows ann fact a", ("knows", "ann", A)), ("may ann fact a", ("may", "ann", A)),
    ("whether ann fact a", ("whether", "ann", A)), ("all ann,bob fact a", ("all", ("ann", "bob"), A)),
    ("common ann,bob fact a", ("common", ("ann", "bob"), A)), ("pool ann fact a", ("pool", ("ann",), A)),
    ("tell ann,bob fact a fact b", ("tell", ("ann", "bob"), A, B)), ("told ann fact a fact b", ("told", ("ann",), A, B)),
    ("then fact a", ("then", A)), ("must fact a", ("must", A)), ("before fact a", ("before", A)),
    ("sometime fact a", ("sometime", A)), ("always fact a", ("always", A)), ("surely fact a", ("surely", A)),
    ("spared fact a", ("spared", A)), ("until fact a fact b", ("until", A, B)), ("till fact a fact b", ("till", A, B)),
    ("once fact a", ("once", A)), ("ever fact a", ("ever", A)), ("since fact a fact b", ("since", A, B)),
    ("knows knows fact knows", ("knows", "knows", ("fact", "knows"))),
    ("all all,pool fact all", ("all", ("all", "pool"), ("fact", "all"))),
)

REFUSED = (
    ("", 0), (" ", 0), ("a", 0), ("wish x", 0), ("least x fact a", 0), ("most x fact a", 0), ("some on fact a", 0),
    ("every on fact a", 0), ("show ann fact a fact b", 0), ("fact", 1), ("fact A", 1), ("fact a b", 2), ("fact a ", 2),
    (" fact a", 0), ("knows", 1), ("knows fact a", 2), ("knows ann", 2), ("knows ann,bob fact a", 1), ("knows Ann fact a", 1),
    ("knows ann fact", 3), ("may  ann fact a", 1), ("whether ann a", 2), ("all fact a", 2), ("all ann, fact a", 1),
    ("all bob,ann fact a", 1), ("common a,b,c,d,e fact a", 1), ("common a,b,c,d fact a b", 4), ("pool one ann fact a", 2),
    ("tell ann fact a", 4), ("tell ann fact a fact b fact c", 6), ("told fact a fact b", 2), ("told ann fact a least", 4),
    ("then", 1), ("then on fact a", 1), ("until fact a", 3), ("until fact a fact b fact a", 5), ("since fact", 2),
    ("sometime always once ever surely", 5), ("common", 1), ("knows ann  fact a", 2),
)


class PlainTextTest(unittest.TestCase):
    def refused(self, text, word):
        with self.subTest(text=text[:200]):
            with self.assertRaises(NoText) as caught:
                read_plain(text)
            self.assertEqual((caught.exception.row, caught.exception.word), (0, word))

    def test_written_and_read(self):
        for text, plain in PAIRS:
            with self.subTest(text=text):
                self.assertEqual(shown_plain(plain), text)
                self.assertEqual(read_plain(text), plain)

    def test_refused(self):
        for text, word in REFUSED:
            self.refused(text, word)

    def test_thirty_one_things(self):
        text = "knows ann " * 29 + "fact a"
        self.assertEqual(shown_plain(read_plain(text)), text)
        self.refused("knows ann " + text, 60)
        self.refused("knows ann " * 30 + "x", 60)
        self.refused("until " * 30 + "until", 30)
        # Five binders, four shows, a core of more things than sixty: read all the same.
        for text in ("sometime " * 7 + "fact a", "whether ann " * 20 + "fact a", "tell ann fact a " * 9 + "fact a"):
            self.assertEqual(shown_plain(read_plain(text)), text)

    def test_random_plain_sentences(self):
        chance = random.Random(27)
        for count in range(500):
            plain = random_plain(chance, chance.randint(1, 30))
            text = shown_plain(plain)
            self.assertIsNone(slow_reading(text, PLAIN_FORMS, 30))
            self.assertEqual(read_plain(text), plain)

    def test_spoiled_texts(self):
        chance = random.Random(28)
        news = list(PLAIN_FORMS) + ["ann", "ann,bob", "bob,ann", "least", "wish", "A", ""]
        found = {True: 0, False: 0}
        for count in range(4000):
            text = spoiled_words(chance, shown_plain(random_plain(chance, chance.choice((3, 8, 30)))), news)
            word = slow_reading(text, PLAIN_FORMS, 30)
            found[word is None] += 1
            if word is None:
                self.assertTrue(is_plain(read_plain(text)))
                self.assertEqual(shown_plain(read_plain(text)), text)
            else:
                self.refused(text, word)
        self.assertGreater(min(found.values()), 200)


if __name__ == "__main__":
    unittest.main()
