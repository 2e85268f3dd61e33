"""Sentences written and read: points [3], [12], [15] and [16]."""

import random
import unittest

from samples import SENTENCE_FORMS, nested, random_sentence, slow_reading, spoiled_words
from worldsay.errors import NoText, WorldError
from worldsay.sentences import is_sentence
from worldsay.sentencetexts import read_sentence, shown_sentence

A, B = ("fact", "a"), ("fact", "b")
X = ("wish", "x")
ANN = ("ann",)

PAIRS = (
    ("fact a", A),
    ("not fact a", ("not", A)),
    ("and fact a fact b", ("and", A, B)),
    ("or fact a not fact b", ("or", A, ("not", B))),
    ("some on fact a", ("some", ("on",), A)),
    ("every back fact a", ("every", ("back",), A)),
    ("some one ann fact a", ("some", ("one", ANN), A)),
    ("every pool ann,bob,cid,dan fact a", ("every", ("pool", ("ann", "bob", "cid", "dan")), A)),
    ("least x wish x", ("least", "x", X)),
    ("most x and fact a every one ann,bob wish x",
     ("most", "x", ("and", A, ("every", ("one", ("ann", "bob")), X)))),
    ("show ann fact a fact b", ("show", ANN, A, B)),
    ("show ann,bob show ann fact a fact b not fact b",
     ("show", ("ann", "bob"), ("show", ANN, A, B), ("not", B))),
    ("least x not not wish x", ("least", "x", ("not", ("not", X)))),
    # Names that are like words.
    ("fact fact", ("fact", "fact")),
    ("least not wish not", ("least", "not", ("wish", "not"))),
    ("some one on fact on", ("some", ("one", ("on",)), ("fact", "on"))),
    ("every pool one,pool fact least", ("every", ("pool", ("one", "pool")), ("fact", "least"))),
    ("show and,or fact and fact or", ("show", ("and", "or"), ("fact", "and"), ("fact", "or"))),
)

# A text, and the number of the first word that can't stand there.
REFUSED = (
    ("", 0), (" ", 0), ("a", 0), ("Fact a", 0), ("facts a", 0), ("on fact a", 0), ("knows ann fact a", 0),
    ("fact", 1), ("fact ", 1), ("fact A", 1), ("fact a1", 1), ("fact abcdefghi", 1), ("fact a ", 2), ("fact a fact", 2),
    (" fact a", 0), ("fact  a", 1), ("fact a b", 2), ("fact a,b", 1), ("fact a\n", 1), ("fact a\tb", 1),
    ("not", 1), ("not a", 1), ("not not", 2), ("not fact", 2), ("not fact a fact a", 3),
    ("and", 1), ("and fact a", 3), ("and fact a fact", 4), ("and fact a fact b fact c", 5), ("and fact a b", 3),
    ("or fact a and fact a", 6), ("some", 1), ("some a", 1), ("some fact a", 1), ("some on", 2), ("some on a", 2),
    ("some one", 2), ("some one fact", 3), ("some one fact a", 3), ("some one ann", 3), ("some one A fact a", 2),
    ("some one ann,ann fact a", 2), ("some one bob,ann fact a", 2), ("some one ann, fact a", 2),
    ("some one ,ann fact a", 2), ("some one ann,,bob fact a", 2), ("some one a,b,c,d,e fact a", 2),
    ("some one ann, bob fact a", 2), ("every pool", 2), ("every pool  fact a", 2), ("every on on fact a", 2),
    ("every on,back fact a", 1), ("least", 1), ("least X wish x", 1), ("least x", 2), ("least x x", 2),
    ("least x wish", 3), ("least x wish y", 3), ("least x wish x wish x", 4), ("wish", 1), ("wish x", 1),
    ("not wish x", 2), ("and least x wish x wish x", 6), ("least x not wish x", 4), ("least x not not not wish x", 6),
    ("least x least x wish x", 3), ("least x most x wish x", 3), ("most x not least x fact a", 4),
    ("least x show ann fact a wish x", 7), ("least x show ann wish x fact a", 5),
    ("least x show ann not not wish x fact a", 7), ("least x show ann least x wish x fact a", 5),
    ("least x not least y wish x", 6), ("show", 1), ("show fact a fact b", 2), ("show ann fact a", 4),
    ("show ann fact a fact b fact c", 6), ("show a,b,c,d,e fact a fact b", 1), ("show b,a fact a fact b", 1),
    ("least a least b most c least d fact a", None), ("least a least b most c least d least e fact a", 8),
    ("least a least b most c least d not most e fact a", 9),
    ("least a least b show ann fact a most c least d least e fact a", 12),
    ("show a show a show a fact a fact a fact a fact a", None),
    ("show a show a show a show a fact a fact a fact a fact a fact a", 6),
    ("show a fact a show a fact a show a fact a fact a", None),
    ("show a fact a show a fact a show a fact a show a fact a fact a", 12),
    ("least a least b least c least d least A fact a", 8),
)


class SentenceTextTest(unittest.TestCase):
    def refused(self, text, word):
        with self.subTest(text=text[:300]):
            with self.assertRaises(NoText) as caught:
                read_sentence(text)
            self.assertEqual((caught.exception.row, caught.exception.word), (0, word))
            self.assertIsInstance(caught.exception, WorldError)

    def test_written_and_read(self):
        for text, sentence in PAIRS:
            with self.subTest(text=text):
                self.assertTrue(is_sentence(sentence))
                self.assertEqual(shown_sentence(sentence), text)
                self.assertEqual(read_sentence(text), sentence)

    def test_refused(self):
        for text, word in REFUSED:
            if word is None:
                self.assertEqual(shown_sentence(read_sentence(text)), text)
            else:
                self.refused(text, word)

    def test_sixty_one_things(self):
        self.assertEqual(read_sentence("not " * 59 + "fact a"), nested(lambda s: ("not", s), A, 59))
        self.refused("not " * 60 + "fact a", 60)
        self.refused("not " * 60, 60)
        self.refused(" ".join(["not"] * 60), 60)
        self.refused(" ".join(["not"] * 61), 60)
        wide = " ".join(["and"] * 29 + ["fact a"] * 30)
        self.assertEqual(shown_sentence(read_sentence(wide)), wide)
        self.assertEqual(shown_sentence(read_sentence("not " + wide)), "not " + wide)
        self.refused("not not " + wide, 31 + 58)
        self.refused("and " + wide, 30 + 60)
        self.refused("and " + wide + " fact a", 30 + 60)
        self.refused("not and " + wide + " fact a", 31 + 58)
        self.refused(wide + " fact a", 29 + 60)

    def test_random_sentences(self):
        chance = random.Random(20)
        for count in range(500):
            sentence = random_sentence(chance, chance.randint(1, 60))
            text = shown_sentence(sentence)
            self.assertIsNone(slow_reading(text, SENTENCE_FORMS, 60))
            self.assertEqual(read_sentence(text), sentence)

    def test_spoiled_texts(self):
        chance = random.Random(21)
        news = list(SENTENCE_FORMS) + ["on", "one", "ann", "ann,bob", "bob,ann", "p", "q", "r", "A", "a1", ""]
        found = {True: 0, False: 0}
        for count in range(6000):
            text = shown_sentence(random_sentence(chance, chance.randint(1, chance.choice((8, 60)))))
            for times in range(chance.choice((1, 1, 2))):
                text = spoiled_words(chance, text, news)
            word = slow_reading(text, SENTENCE_FORMS, 60)
            found[word is None] += 1
            if word is None:
                sentence = read_sentence(text)
                self.assertTrue(is_sentence(sentence))
                self.assertEqual(shown_sentence(sentence), text)
            else:
                self.refused(text, word)
        self.assertGreater(min(found.values()), 200)

    def test_great_sentences_are_written(self):
        sentence = nested(lambda s: ("and", s, s), ("some", ("one", ANN), A), 10)
        self.assertEqual(shown_sentence(sentence).count("some one ann fact a"), 1024)


if __name__ == "__main__":
    unittest.main()
