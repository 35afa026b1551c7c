"""Points 5, 8 and 9, and what points 2 and 3 say of books of kinds."""

import unittest
from itertools import permutations

from manydeeds.errors import DeedError, NoKind, Ring, TooMany, Twice
from manydeeds.kinds import Kinds
from samples import ALPHABET, PETS, books_without_rings, is_ring, ladder_rows, plain_rows, under_pairs
from samples import within_steps

NO_KINDS = ("x", "", "abcdefghi", "Pup", "pup ", "stones")


class Refused(unittest.TestCase):
    def refused(self, refusal, deed, *handed):
        with self.assertRaises(DeedError) as taken:
            deed(*handed)
        self.assertIs(taken.exception.__class__, refusal)
        return taken.exception

    def refused_word(self, refusal, word, deed, *handed):
        self.assertEqual(self.refused(refusal, deed, *handed).word, word)


class UnderAndAbove(Refused):
    def setUp(self):
        self.book = Kinds(PETS)

    def test_told_as_handed_in(self):
        self.assertEqual(self.book.words(), ["pup", "dog", "cat", "pet", "beast", "thing", "stone"])
        self.assertEqual(self.book.rows(), PETS)
        lists = Kinds(tuple((word, list(ups)) for word, ups in PETS))
        self.assertEqual(lists.rows(), PETS)
        for pair in lists.rows():
            self.assertIsInstance(pair, tuple)
            self.assertIsInstance(pair[1], tuple)

    def test_ups_in_their_own_order(self):
        self.assertEqual(self.book.ups("dog"), ["pet", "beast"])
        self.assertEqual(self.book.ups("thing"), [])
        turned = Kinds([("a", ()), ("b", ()), ("c", ("b", "a"))])
        self.assertEqual(turned.ups("c"), ["b", "a"])
        self.assertEqual(turned.above("c"), ["a", "b", "c"])

    def test_under_and_beneath(self):
        self.assertIs(self.book.under("pup", "thing"), True)
        self.assertIs(self.book.under("thing", "pup"), False)
        self.assertIs(self.book.under("dog", "dog"), True)
        self.assertIs(self.book.under("dog", "cat"), False)
        self.assertIs(self.book.under("stone", "thing"), False)
        self.assertIs(self.book.beneath("pup", "thing"), True)
        self.assertIs(self.book.beneath("dog", "dog"), False)
        self.assertIs(self.book.beneath("thing", "pup"), False)

    def test_above_and_below(self):
        self.assertEqual(self.book.above("pup"), ["pup", "dog", "pet", "beast", "thing"])
        self.assertEqual(self.book.above("stone"), ["stone"])
        self.assertEqual(self.book.below("pet"), ["pup", "dog", "cat", "pet"])
        self.assertEqual(self.book.below("pup"), ["pup"])
        self.assertEqual(self.book.below("thing"), ["pup", "dog", "cat", "pet", "beast", "thing"])

    def test_rows_in_any_order(self):
        for ups in books_without_rings("abcd"):
            pairs = under_pairs(ups)
            for words in permutations("abcd"):
                self.check_book(Kinds([(word, ups[word]) for word in words]), words, pairs)

    def test_every_book_of_five_kinds(self):
        words = ("d", "b", "e", "a", "c")
        for ups in books_without_rings("abcde"):
            self.check_book(Kinds([(word, ups[word]) for word in words]), words, under_pairs(ups))

    def check_book(self, book, words, pairs):
        for one in words:
            self.assertEqual(book.above(one), [word for word in words if (one, word) in pairs])
            self.assertEqual(book.below(one), [word for word in words if (word, one) in pairs])
            for other in words:
                self.assertIs(book.under(one, other), (one, other) in pairs)
                self.assertIs(book.beneath(one, other), (one, other) in pairs and one != other)

    def test_very_many_ways_up(self):
        def ask_all():
            book = Kinds(ladder_rows())
            return [(book.above(word), book.below(word), book.under("x", word)) for word in ALPHABET]

        for k, answer in enumerate(within_steps(200000, ask_all)):
            self.assertEqual(answer, (list(ALPHABET[:k + 1]), list(ALPHABET[k:]), True))


class OneMoreKind(Refused):
    def setUp(self):
        self.book = Kinds(PETS)

    def test_its_row_stands_behind_all(self):
        greater = self.book.more("kitten", ["cat"])
        self.assertEqual(greater.rows(), PETS + [("kitten", ("cat",))])
        self.assertEqual(greater.above("kitten"), ["cat", "pet", "beast", "thing", "kitten"])
        self.assertEqual(self.book.more("rock", ()).above("rock"), ["rock"])
        self.assertEqual(self.book.rows(), PETS)

    def test_other_answers_stay(self):
        greater = self.book.more("kitten", ("cat", "stone"))
        for one in self.book.words():
            self.assertEqual(greater.above(one), self.book.above(one))
            for other in self.book.words():
                self.assertIs(greater.under(one, other), self.book.under(one, other))

    def test_twentyfourth_and_twentyfifth(self):
        book = Kinds(plain_rows(23)).more("x", tuple("abcdefgh"))
        self.assertEqual(len(book.words()), 24)
        self.refused(TooMany, book.more, "y", ())
        self.refused(TooMany, book.more, "a", ())
        self.refused(TooMany, book.more, "A", ("A", "A"))
        self.assertEqual(len(book.words()), 24)

    def test_refused_as_the_making_is(self):
        nine = tuple("abcdefghi")
        for word in ("", "abcdefghi", "Dog", "a b"):
            self.refused_word(NoKind, word, self.book.more, word, ("x", "x"))
            self.refused_word(NoKind, word, self.book.more, word, nine)
        self.refused_word(Twice, "dog", self.book.more, "dog", nine)
        self.refused_word(Twice, "dog", self.book.more, "dog", ("x",))
        self.refused(TooMany, self.book.more, "new", nine)
        self.refused_word(NoKind, "x", self.book.more, "new", ("cat", "x", "cat"))
        self.refused_word(Twice, "cat", self.book.more, "new", ["cat", "dog", "cat", "x"])
        self.refused_word(Twice, "cat", self.book.more, "new", ["new", "cat", "cat"])
        self.assertEqual(self.refused(Ring, self.book.more, "new", ["dog", "new"]).ring, ["new"])
        self.assertEqual(self.book.rows(), PETS)

    def test_ups_handed_in_are_not_kept(self):
        ups = ["cat"]
        greater = self.book.more("kitten", ups)
        ups.append("stone")
        self.assertEqual(greater.ups("kitten"), ["cat"])
        self.assertIs(greater.under("kitten", "stone"), False)


class Ties(Refused):
    def setUp(self):
        self.book = Kinds(PETS)

    def test_the_other_stands_behind_the_ups(self):
        greater = self.book.tied("dog", "stone")
        self.assertEqual(greater.ups("dog"), ["pet", "beast", "stone"])
        self.assertEqual(greater.words(), self.book.words())
        self.assertIs(greater.under("pup", "stone"), True)
        self.assertEqual([word for word in PETS if word not in greater.rows()], [PETS[1]])
        self.assertEqual(self.book.rows(), PETS)
        self.assertIs(self.book.under("pup", "stone"), False)

    def test_just_the_kinds_under_the_one_change(self):
        greater = self.book.tied("dog", "stone")
        for word in self.book.words():
            changed = greater.above(word) != self.book.above(word)
            self.assertIs(changed, self.book.under(word, "dog"))

    def test_a_tie_that_stands_already_by_others(self):
        greater = self.book.tied("pup", "thing")
        self.assertEqual(greater.ups("pup"), ["dog", "thing"])
        for word in self.book.words():
            self.assertEqual(greater.above(word), self.book.above(word))
            self.assertEqual(greater.below(word), self.book.below(word))
            if word != "pup":
                self.assertEqual(greater.ups(word), self.book.ups(word))

    def test_refused(self):
        self.refused_word(Twice, "pet", self.book.tied, "dog", "pet")
        for one, other in (("thing", "pup"), ("dog", "pup"), ("pet", "pup")):
            ups = dict(PETS)
            ups[one] += (other,)
            self.assertTrue(is_ring(self.refused(Ring, self.book.tied, one, other).ring, ups))
        self.assertEqual(self.refused(Ring, self.book.tied, "dog", "dog").ring, ["dog"])
        self.assertEqual(self.book.rows(), PETS)

    def test_the_ninth_up(self):
        book = Kinds(plain_rows(10) + [("z", tuple("abcdefg"))])
        full = book.tied("z", "h")
        self.assertEqual(full.ups("z"), list("abcdefgh"))
        self.refused(TooMany, full.tied, "z", "i")
        self.refused(TooMany, full.tied, "z", "a")
        self.refused(TooMany, full.tied, "z", "z")
        self.refused_word(NoKind, "x", full.tied, "z", "x")
        self.assertEqual(full.ups("z"), list("abcdefgh"))
        self.assertEqual(book.ups("z"), list("abcdefg"))

    def test_words_that_are_no_kinds_go_first(self):
        for word in NO_KINDS:
            self.refused_word(NoKind, word, self.book.tied, word, "dog")
            self.refused_word(NoKind, word, self.book.tied, "dog", word)
            self.refused_word(NoKind, word, self.book.tied, word, "y")
            self.refused_word(NoKind, word, self.book.tied, word, word)

    def test_every_tie_in_every_book_of_four_kinds(self):
        for ups in books_without_rings("abcd"):
            book = Kinds(list(ups.items()))
            rows = book.rows()
            for one in "abcd":
                for other in "abcd":
                    self.check_tie(book, ups, one, other)
            self.assertEqual(book.rows(), rows)

    def check_tie(self, book, ups, one, other):
        tied = {word: ups[word] + [other] * (word == one) for word in ups}
        if other in ups[one]:
            self.refused_word(Twice, other, book.tied, one, other)
        elif book.under(other, one):
            self.assertTrue(is_ring(self.refused(Ring, book.tied, one, other).ring, tied))
        else:
            pairs = under_pairs(tied)
            greater = book.tied(one, other)
            self.assertEqual(greater.rows(), [(word, tuple(row)) for word, row in tied.items()])
            for word in tied:
                self.assertEqual(greater.above(word), [high for high in tied if (word, high) in pairs])


class WordsThatAreNoKinds(Refused):
    def test_one_word(self):
        book = Kinds(PETS)
        for word in NO_KINDS:
            for deed in (book.ups, book.above, book.below):
                self.refused_word(NoKind, word, deed, word)

    def test_of_two_the_first(self):
        book = Kinds(PETS)
        for word in NO_KINDS:
            for deed in (book.under, book.beneath):
                self.refused_word(NoKind, word, deed, word, "pup")
                self.refused_word(NoKind, word, deed, "pup", word)
                self.refused_word(NoKind, word, deed, word, "y")
                self.refused_word(NoKind, "y", deed, "y", word)
                self.refused_word(NoKind, word, deed, word, word)

    def test_kinds_of_a_greater_book_are_none_of_the_lesser(self):
        book = Kinds(PETS)
        self.assertEqual(book.more("new", ()).ups("new"), [])
        self.refused_word(NoKind, "new", book.ups, "new")


class TheAskersOwn(unittest.TestCase):
    def test_told_lists(self):
        book = Kinds(PETS)
        questions = (book.words, book.rows, lambda: book.ups("dog"), lambda: book.above("dog"),
                     lambda: book.below("pet"))
        answers = [list(question()) for question in questions]
        for question in questions:
            told = question()
            self.assertIsInstance(told, list)
            told.append("x")
            told[0] = "y"
        self.assertEqual([question() for question in questions], answers)

    def test_told_lists_stay_when_more_is_asked(self):
        book = Kinds(PETS)
        told = book.words()
        rows = book.rows()
        book.more("new", ["dog"])
        book.tied("dog", "stone")
        book.words().clear()
        self.assertEqual(told, [word for word, ups in PETS])
        self.assertEqual(rows, PETS)

    def test_same_answers_each_time(self):
        book = Kinds(PETS)
        for turn in range(2):
            self.assertEqual(book.above("cat"), ["cat", "pet", "beast", "thing"])
            self.assertIs(book.under("cat", "thing"), True)
            self.assertEqual(book.more("new", ["cat"]).rows()[-1], ("new", ("cat",)))


if __name__ == "__main__":
    unittest.main()
