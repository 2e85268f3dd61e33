"""The refusals: point [2] and the interface's row errors."""

import copy
import unittest

from worldsay.errors import (NoChange, NoLine, NoPaper, NoPoint, NoText, NoTruth, NoWorld, TooMany, WorldError)

MADE = {NoText: (3, 7), NoTruth: (5,), TooMany: (), NoChange: (), NoLine: (), NoWorld: (), NoPoint: (), NoPaper: ()}


class ErrorsTest(unittest.TestCase):
    def test_each_is_taken_by_its_own_class_and_the_bases(self):
        for refusal, fields in MADE.items():
            for taken in (refusal, WorldError, ValueError):
                with self.subTest(refusal=refusal, taken=taken), self.assertRaises(taken) as found:
                    raise refusal(*fields)
                self.assertIs(type(found.exception), refusal)

    def test_none_is_taken_by_another_ones_class(self):
        for refusal, fields in MADE.items():
            for other in MADE:
                if other is not refusal:
                    with self.subTest(refusal=refusal, other=other):
                        self.assertNotIsInstance(refusal(*fields), other)

    def test_each_stands_straight_under_the_base(self):
        self.assertEqual(WorldError.__bases__, (ValueError,))
        for refusal in MADE:
            self.assertEqual(refusal.__bases__, (WorldError,))

    def test_the_base_is_none_of_them(self):
        for refusal in MADE:
            self.assertNotIsInstance(WorldError(), refusal)

    def test_fields(self):
        error = NoText(3, 7)
        self.assertEqual((error.row, error.word), (3, 7))
        self.assertEqual(NoTruth(5).place, 5)

    def test_fields_are_each_objects_own(self):
        first, second = NoText(0, 1), NoText(2, 3)
        first.row = 9
        self.assertEqual((first.row, first.word, second.row, second.word), (9, 1, 2, 3))

    def test_fields_outlive_a_copy(self):
        error = copy.copy(NoText(3, 7))
        self.assertEqual((error.row, error.word), (3, 7))

    def test_how_many_fields_are_wanted(self):
        for refusal, fields in ((NoText, ()), (NoText, (1,)), (NoText, (1, 2, 3)), (NoTruth, ()), (NoTruth, (1, 2))):
            with self.subTest(refusal=refusal, fields=fields), self.assertRaises(TypeError):
                refusal(*fields)


if __name__ == "__main__":
    unittest.main()
