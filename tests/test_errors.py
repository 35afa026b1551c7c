import unittest

from manydeeds import errors
from manydeeds.errors import (
    DeedError, NoBoard, NoCall, NoDeed, NoKind, NoLine, NoName, NoPlace, NoRow, NoTerm, NoText,
    NoWeights, Ring, Same, TooMany, Twice,
)

WITH_WORD = (NoKind, Twice, NoName)
WITH_NUMBER = (NoDeed, Same)
OF_TEXT = (TooMany, NoBoard, NoCall, NoLine, NoPlace, NoWeights, NoTerm, NoRow)
ALL = WITH_WORD + WITH_NUMBER + OF_TEXT + (Ring, NoText)


class Refusals(unittest.TestCase):
    def test_each_stands_straight_under_deed_error(self):
        self.assertEqual(DeedError.__bases__, (ValueError,))
        for refusal in ALL:
            with self.subTest(refusal.__name__):
                self.assertEqual(refusal.__bases__, (DeedError,))

    def test_there_are_no_others(self):
        classes = {thing for thing in vars(errors).values() if isinstance(thing, type)}
        self.assertEqual(classes, set(ALL) | {DeedError})
        self.assertEqual(len(ALL), 15)

    def test_none_is_taken_as_another_one(self):
        for refusal in ALL:
            for other in ALL:
                if refusal is not other:
                    self.assertFalse(issubclass(refusal, other))

    def test_words_and_numbers_and_rows(self):
        for refusal in WITH_WORD:
            self.assertEqual(refusal("dog").word, "dog")
            self.assertEqual(refusal("").word, "")
        for refusal in WITH_NUMBER:
            self.assertEqual(refusal(0).number, 0)
            self.assertEqual(refusal(63).number, 63)
        self.assertEqual(NoText(7).row, 7)

    def test_ring_is_a_list_of_its_own(self):
        handed = ["a", "b"]
        refusal = Ring(handed)
        handed.append("c")
        self.assertEqual(refusal.ring, ["a", "b"])
        refusal.ring.append("d")
        self.assertEqual(handed, ["a", "b", "c"])
        self.assertIsInstance(Ring(("a",)).ring, list)

    def test_made_of_a_text_and_raised(self):
        for refusal in OF_TEXT:
            with self.subTest(refusal.__name__):
                self.assertEqual(str(refusal("so it is")), "so it is")
                with self.assertRaises(ValueError):
                    raise refusal("so it is")


if __name__ == "__main__":
    unittest.main()
