"""Point 4: words, and what a book of kinds is made of; and at the making, points 2 and 8."""

import unittest
from itertools import product

from manydeeds.errors import DeedError, NoKind, Ring, TooMany, Twice
from manydeeds.kinds import Kinds, is_word
from samples import ALPHABET, PETS, has_ring, is_ring, ladder_rows, plain_rows, within_steps


class Words(unittest.TestCase):
    def test_words(self):
        for text in ("a", "z", "az", "thing", "abcdefg", "abcdefgh", "zzzzzzzz", "under"):
            self.assertIs(is_word(text), True, text)
        for letter in "abcdefghijklmnopqrstuvwxyz":
            self.assertIs(is_word(letter), True, letter)

    def test_no_words(self):
        for text in ("", "abcdefghi", "abcdefghijkl", " ", " a", "a ", "a b", "A", "aB", "Dog", "a1",
                     "1", "a-b", "a_b", "_", "`", "{", "~", "dog.", "abcdefgH", "dog\n", "\n"):
            self.assertIs(is_word(text), False, text)

    def test_every_other_sign(self):
        letters = "abcdefghijklmnopqrstuvwxyz"
        for code in range(32, 127):
            sign = chr(code)
            for text in (sign, "a" + sign, sign + "a", "a" + sign + "a"):
                self.assertIs(is_word(text), sign in letters, text)

    def test_letters_of_other_tongues(self):
        for text in ("\u00e9", "stra\u00dfe", "\u0430"):
            self.assertIs(is_word(text), False, text)


class Refused(unittest.TestCase):
    def refused(self, refusal, rows):
        with self.assertRaises(DeedError) as taken:
            Kinds(rows)
        self.assertIs(taken.exception.__class__, refusal)
        return taken.exception

    def refused_word(self, refusal, word, rows):
        for handed in (rows, tuple(rows), [(name, list(ups)) for name, ups in rows]):
            self.assertEqual(self.refused(refusal, handed).word, word)


class Making(Refused):
    def test_one_and_twentyfour_kinds(self):
        self.assertEqual(Kinds([("a", [])]).words(), ["a"])
        self.assertEqual(Kinds(plain_rows(24)).words(), list(ALPHABET))

    def test_none_and_more_than_twentyfour(self):
        self.refused(TooMany, [])
        self.refused(TooMany, ())
        rows = plain_rows(24) + [("y", ())]
        self.refused(TooMany, rows)
        self.refused(TooMany, tuple(rows))
        self.refused(TooMany, rows * 3)

    def test_no_word(self):
        for word in ("", "abcdefghi", "Dog", "a b", "a1", "dog "):
            self.refused_word(NoKind, word, [("a", ()), (word, ())])

    def test_long_word(self):
        self.assertEqual(Kinds([("abcdefgh", ())]).words(), ["abcdefgh"])
        self.refused_word(NoKind, "abcdefghi", [("abcdefghi", ())])

    def test_word_twice(self):
        self.refused_word(Twice, "a", [("a", ()), ("b", ()), ("a", ("b",))])

    def test_eight_and_nine_ups(self):
        rows = plain_rows(9)
        self.assertEqual(Kinds(rows + [("z", tuple("abcdefgh"))]).ups("z"), list("abcdefgh"))
        self.refused(TooMany, rows + [("z", tuple("abcdefghi"))])
        self.refused(TooMany, rows + [("z", list("abcdefghi"))])

    def test_up_that_is_no_kind(self):
        for up in ("b", "", "A", "abcdefghi", "a "):
            self.refused_word(NoKind, up, [("a", ()), ("c", ("a", up))])

    def test_up_twice(self):
        self.refused_word(Twice, "a", [("a", ()), ("b", ()), ("c", ("a", "b", "a"))])

    def test_rings(self):
        for rows in ([("a", ("a",))],
                     [("a", ("b",)), ("b", ("a",))],
                     [("x", ("a",)), ("a", ("t", "b")), ("b", ("t", "c")), ("c", ("t", "a")), ("t", ())],
                     [("t", ()), ("a", ("t", "a")), ("b", ("a",))]):
            self.assertTrue(is_ring(self.refused(Ring, rows).ring, dict(rows)), rows)
        self.assertEqual(self.refused(Ring, [("t", ()), ("a", ("t", "a")), ("b", ("a",))]).ring, ["a"])

    def test_every_choice_of_ups_of_three_kinds(self):
        words = "abc"
        rings = 0
        for choice in product((False, True), repeat=9):
            ups = {low: [high for j, high in enumerate(words) if choice[3 * i + j]]
                   for i, low in enumerate(words)}
            rows = list(ups.items())
            if has_ring(ups):
                rings += 1
                self.assertTrue(is_ring(self.refused(Ring, rows).ring, ups), rows)
            else:
                self.assertEqual(Kinds(rows).rows(), [(word, tuple(row)) for word, row in rows])
        self.assertEqual(rings, 512 - 25)

    def test_ring_among_very_many_ways(self):
        rows = ladder_rows()
        rows[0] = ("a", (rows[23][0],))
        ring = within_steps(100000, lambda: self.refused(Ring, rows).ring)
        self.assertTrue(is_ring(ring, dict(rows)))


class WhatGoesFirst(Refused):
    def test_number_of_rows_ahead_of_all(self):
        self.refused(TooMany, [("A", ())] * 25)
        self.refused(TooMany, [("a", ("a",))] * 25)

    def test_row_by_row(self):
        nine = tuple("abcdefghi")
        self.refused_word(NoKind, "A", [("A", nine)])
        self.refused_word(Twice, "a", [("a", ()), ("a", nine)])
        self.refused_word(NoKind, "A", [("A", ()), ("A", ())])
        self.refused(TooMany, [("a", nine), ("A", ())])
        self.refused(TooMany, [("a", nine), ("a", ())])
        self.refused_word(NoKind, "A", [("A", ()), ("a", nine)])
        self.refused_word(Twice, "a", [("a", ()), ("a", ()), ("B", ())])
        self.refused_word(NoKind, "B", [("a", ()), ("B", ()), ("a", ())])

    def test_rows_ahead_of_ups(self):
        self.refused_word(NoKind, "B", [("a", ("x", "a", "a")), ("B", ())])
        self.refused_word(Twice, "a", [("a", ("x",)), ("a", ())])
        self.refused(TooMany, [("a", ("x", "a", "a")), ("b", tuple("aaaaaaaaa"))])

    def test_up_by_up(self):
        self.refused_word(NoKind, "x", [("a", ("b", "x", "b")), ("b", ())])
        self.refused_word(Twice, "b", [("a", ("b", "b", "x")), ("b", ())])
        self.refused_word(NoKind, "x", [("a", ("x", "x")), ("b", ())])
        self.refused_word(NoKind, "y", [("a", ("y",)), ("b", ("x",))])
        self.refused_word(Twice, "b", [("a", ("b", "b")), ("b", ("x",))])
        self.refused_word(NoKind, "x", [("b", ("x",)), ("a", ("b", "b"))])

    def test_ups_ahead_of_rings(self):
        self.refused_word(NoKind, "x", [("a", ("a",)), ("b", ("x",))])
        self.refused_word(Twice, "a", [("a", ("a", "a"))])
        self.refused_word(Twice, "b", [("a", ("b",)), ("b", ("a",)), ("c", ("b", "b"))])


class TheAskersOwn(Refused):
    def test_rows_handed_in_stay_and_are_not_kept(self):
        ups = ["b", "c"]
        rows = [("a", ups), ("b", []), ("c", [])]
        book = Kinds(rows)
        self.assertEqual(rows, [("a", ["b", "c"]), ("b", []), ("c", [])])
        ups.append("x")
        rows.pop()
        rows[1][1].append("a")
        self.assertEqual(book.rows(), [("a", ("b", "c")), ("b", ()), ("c", ())])
        self.assertEqual(book.words(), ["a", "b", "c"])
        self.assertEqual(book.above("a"), ["a", "b", "c"])

    def test_ring_of_a_refusal(self):
        rows = [("a", ["b"]), ("b", ["a"])]
        ring = self.refused(Ring, rows).ring
        told = list(ring)
        ring.clear()
        self.assertEqual(self.refused(Ring, rows).ring, told)
        self.assertEqual(rows, [("a", ["b"]), ("b", ["a"])])

    def test_ring_of_a_refused_tie(self):
        book = Kinds(PETS)
        rings = []
        for turn in range(2):
            with self.assertRaises(Ring) as taken:
                book.tied("thing", "pup")
            rings.append(list(taken.exception.ring))
            taken.exception.ring.append("pup")
        self.assertEqual(rings[0], rings[1])
        self.assertEqual(book.rows(), PETS)


if __name__ == "__main__":
    unittest.main()
