"""Points 6 and 7, and point 9 where chains and common kinds are asked."""

import unittest

from manydeeds.chains import chain, commons
from manydeeds.errors import DeedError, NoKind
from manydeeds.kinds import Kinds
from samples import ALPHABET, PETS, books_without_rings, ladder_rows, under_pairs, within_steps


def is_chain(told, book, one, other):
    return (isinstance(told, list) and told[0] == one and told[-1] == other
            and len(set(told)) == len(told)
            and all(high in book.ups(low) for low, high in zip(told, told[1:])))


class Chains(unittest.TestCase):
    def test_ordinary(self):
        book = Kinds(PETS)
        self.assertEqual(chain(book, "pup", "pet"), ["pup", "dog", "pet"])
        self.assertEqual(chain(book, "dog", "beast"), ["dog", "beast"])
        self.assertTrue(is_chain(chain(book, "pup", "thing"), book, "pup", "thing"))

    def test_to_itself(self):
        book = Kinds(PETS)
        for word in book.words():
            self.assertEqual(chain(book, word, word), [word])

    def test_none_where_not_under(self):
        book = Kinds(PETS)
        for one, other in (("thing", "pup"), ("dog", "cat"), ("stone", "thing"), ("pup", "stone")):
            self.assertIsNone(chain(book, one, other))

    def test_every_book_of_five_kinds(self):
        words = ("d", "b", "e", "a", "c")
        for ups in books_without_rings("abcde"):
            book = Kinds([(word, ups[word]) for word in words])
            pairs = under_pairs(ups)
            for one in words:
                for other in words:
                    told = chain(book, one, other)
                    if (one, other) in pairs:
                        self.assertTrue(is_chain(told, book, one, other))
                    else:
                        self.assertIsNone(told)

    def test_very_many_ways_up(self):
        book = Kinds(ladder_rows(23) + [("x", ())])
        told = within_steps(20000, lambda: chain(book, "w", "a"))
        self.assertTrue(is_chain(told, book, "w", "a"))
        self.assertIsNone(within_steps(20000, lambda: chain(book, "w", "x")))
        self.assertIsNone(within_steps(20000, lambda: chain(book, "a", "w")))

    def test_a_ladder_of_single_ups(self):
        rows = [(word, tuple(ALPHABET[k + 1:k + 2])) for k, word in enumerate(ALPHABET)]
        self.assertEqual(chain(Kinds(rows), "a", "x"), list(ALPHABET))


class Commons(unittest.TestCase):
    def test_none_one_and_several(self):
        book = Kinds(PETS)
        self.assertEqual(commons(book, "pup", "stone"), [])
        self.assertEqual(commons(book, "dog", "cat"), [])
        self.assertEqual(commons(book, "pup", "thing"), ["pup"])
        self.assertEqual(commons(book, "pet", "beast"), ["dog", "cat"])
        self.assertEqual(commons(book, "beast", "pet"), ["dog", "cat"])

    def test_of_a_kind_and_itself(self):
        book = Kinds(PETS)
        for word in book.words():
            self.assertEqual(commons(book, word, word), [word])

    def test_as_the_kinds_are_told(self):
        rows = [("c", "xy"), ("y", ()), ("a", "xy"), ("x", ()), ("b", "yx"), ("d", "a")]
        book = Kinds([(word, tuple(ups)) for word, ups in rows])
        self.assertEqual(commons(book, "x", "y"), ["c", "a", "b"])

    def test_fourteen_kinds(self):
        rows = ladder_rows(12) + [("y", tuple("efghijkl")), ("z", tuple("efghijkl"))]
        book = Kinds(rows)
        self.assertEqual(commons(book, "l", "a"), ["l"])
        self.assertEqual(commons(book, "l", "y"), ["y"])
        self.assertEqual(commons(book, "y", "z"), [])

    def test_every_book_of_five_kinds(self):
        words = ("d", "b", "e", "a", "c")
        for ups in books_without_rings("abcde"):
            book = Kinds([(word, ups[word]) for word in words])
            pairs = under_pairs(ups)
            for one in words:
                for other in words:
                    both = [word for word in words if (word, one) in pairs and (word, other) in pairs]
                    greatest = [word for word in both
                                if not any((word, high) in pairs for high in both if high != word)]
                    self.assertEqual(commons(book, one, other), greatest)


class Refused(unittest.TestCase):
    def test_words_that_are_no_kinds(self):
        book = Kinds(PETS)
        for deed in (chain, commons):
            for word in ("x", "", "abcdefghi", "Pup", "pup "):
                for one, other in ((word, "pup"), ("pup", word), (word, "y"), (word, word)):
                    self.refused(word, deed, book, one, other)
                self.refused("y", deed, book, "y", word)

    def test_in_books_of_more_than_fourteen_kinds(self):
        book = Kinds(ladder_rows())
        self.refused("y", commons, book, "y", "z")
        self.refused("z", commons, book, "a", "z")

    def refused(self, word, deed, *handed):
        with self.assertRaises(DeedError) as taken:
            deed(*handed)
        self.assertIs(taken.exception.__class__, NoKind)
        self.assertEqual(taken.exception.word, word)


class TheAskersOwn(unittest.TestCase):
    def test_told_lists(self):
        book = Kinds(PETS)
        for question in (lambda: chain(book, "pup", "thing"), lambda: chain(book, "pup", "pup"),
                         lambda: commons(book, "pet", "beast"), lambda: commons(book, "dog", "cat")):
            told = question()
            kept = list(told)
            told.append("x")
            told[0] = "y"
            self.assertEqual(question(), kept)
        self.assertEqual(book.rows(), PETS)


if __name__ == "__main__":
    unittest.main()
