"""Points 36 and 37, and what points 2, 9 and 12 say of terms."""

from itertools import product
from random import Random

from manydeeds.books import Book
from manydeeds.errors import NoKind, NoTerm, TooMany
from manydeeds.kinds import Kinds
from manydeeds.terms import is_term, run
from own import OwnBook, depth, draw_filling, draw_term, drawn_books, parts
from refusals import Refused
from samples import PETS, plain_rows, within_calls

NAMES = [
    ("meet", 2, ((("dog", "cat"), "pet"), (("pet", "pet"), "thing"), (("thing", "pet"), "stone"))),
    ("up", 1, ((("pup",), "dog"), (("dog",), "pet"), (("pet",), "thing"), (("beast",), "beast"))),
    ("four", 4, ((("thing",) * 4, "thing"),)),
    ("still", 3, ()),
]


def chain_of(deep, word="up"):
    """A term with so many levels, one part each."""
    term = 0
    for level in range(deep - 1):
        term = (word, term)
    return term


def wide(number):
    """A term of just so many parts, 5 to 45: one call of four parts, each at most 11 deep."""
    left = number - 1
    lengths = []
    for place in range(4):
        lengths.append(min(11, left - (3 - place)))
        left -= lengths[-1]
    return ("four",) + tuple(chain_of(length) for length in lengths)


class WhatIsATerm(Refused):
    def setUp(self):
        self.book = Book(Kinds(PETS), NAMES)

    def is_one(self, term, filling=("dog", "cat", "pup")):
        self.assertIs(is_term(self.book, filling, term), True)
        self.assertIs(is_term(self.book, list(filling), term), True)
        run(self.book, filling, term)

    def is_none(self, term, filling=("dog", "cat", "pup")):
        self.assertIs(is_term(self.book, filling, term), False)
        self.assertIs(is_term(self.book, list(filling), term), False)
        self.refused(NoTerm, run, self.book, filling, term)

    def test_numbers(self):
        for number in (0, 1, 2):
            self.is_one(number)
        for number in (-1, 3, 4, 99, 10 ** 59, -10 ** 59):
            self.is_none(number)
        for length in range(13):
            filling = ("dog",) * length
            for number in range(length):
                self.is_one(number, filling)
            for number in (length, length + 1, -1):
                self.is_none(number, filling)

    def test_numbers_within(self):
        self.is_one(("meet", 2, ("up", 0)))
        for number in (-1, 3):
            self.is_none(("meet", number, 0))
            self.is_none(("meet", 0, number))
            self.is_none(("meet", 0, ("up", number)))

    def test_truths_are_no_whole_numbers(self):
        self.is_none(True)
        self.is_none(("up", False))

    def test_names_and_their_places(self):
        for term in (("up", 0), ("meet", 0, 1), ("still", 0, 1, 2), ("four", 0, 0, 0, ("meet", 1, 1))):
            self.is_one(term)
        for term in (("up",), ("up", 0, 0), ("meet", 0), ("meet", 0, 0, 0), ("still", 0, 0), ("four", 0, 0, 0),
                     ("four", 0, 0, 0, 0, 0), ("dog", 0), ("none", 0), ("Up", 0), ("", 0), ("up ", 0),
                     ("up", ("up", 0, 0)), ("meet", ("up", 0), ("none", 0)), ("up", ("dog", 0))):
            self.is_none(term)

    def test_other_things(self):
        for term in ("", "up", "0", "dog", (), ((),), (0,), (0, 0), (("up",), 0), (("up", 0), 0), ("up", ()),
                     ("up", "0"), ("up", "up"), ("meet", 0, "dog"), ("up", (0, 0)), (0, "up"), ((("up", 0),),)):
            self.is_none(term)

    def test_no_term_without_things(self):
        for term in (0, ("up", 0), ("up", ("up", 0)), ("still", 0, 0, 0)):
            self.is_none(term, ())

    def test_no_term_of_names_without_names(self):
        book = Book(Kinds(PETS), [])
        self.assertTrue(is_term(book, ("dog",), 0))
        self.assertFalse(is_term(book, ("dog",), ("up", 0)))

    def test_a_name_with_a_kinds_word(self):
        book = Book(Kinds(PETS), [("dog", 1, [(("dog",), "cat")]), ("under", 1, [(("cat",), "dog")])])
        self.assertEqual(run(book, ["dog"], ("under", ("dog", 0))), ("kind", "dog"))
        self.assertFalse(is_term(book, ["dog"], ("cat", 0)))

    def test_deep(self):
        for deep in range(1, 13):
            self.assertEqual(depth(chain_of(deep)), deep)
            self.is_one(chain_of(deep))
            self.is_one(("meet", 0, chain_of(deep - 1)) if deep > 1 else 0)
        for deep in (13, 14, 40, 90):
            self.is_none(chain_of(deep))
            self.is_none(("meet", chain_of(deep - 1), 0))
            self.is_none(("meet", 0, chain_of(deep - 1)))

    def test_parts(self):
        for number in range(5, 46):
            term = wide(number)
            self.assertEqual(parts(term), number)
            self.assertLessEqual(depth(term), 12)
            self.assertIs(is_term(self.book, ["dog"], term), number <= 40)
            if number > 40:
                self.refused(NoTerm, run, self.book, ["dog"], term)
            else:
                run(self.book, ["dog"], term)

    def test_whatever_is_handed_in(self):
        deep = 0
        for level in range(89):
            deep = (deep,)
        within_calls(80, lambda: is_term(self.book, ["dog"], deep))
        within_calls(80, lambda: is_term(self.book, ["dog"], chain_of(90)))
        self.is_none(deep)
        self.is_none(("up", deep[0]))
        self.is_none((deep[0], 0))
        self.is_none(("up",) * 450)
        self.is_none(("four",) + tuple(("up", 0) for k in range(150)))
        self.is_none(tuple(() for k in range(449)))
        self.is_none((0,) * 449)
        long = 0
        for level in range(88):
            long = ("four", long, 0, 0, 0)
        self.is_none(long)

    def test_drawn(self):
        random = Random(361)
        counts = {True: 0, False: 0}
        for book in drawn_books(36, 200):
            made = book.made()
            for turn in range(5):
                filling = draw_filling(random, book, random.randint(1, 12))
                term = draw_term(random, book, len(filling) + random.randint(0, 1), random.randint(1, 14))
                expected = book.is_term(len(filling), term)
                counts[expected] += 1
                self.assertIs(is_term(made, filling, term), expected)
        self.assertGreater(min(counts.values()), 50)


class WhatIsRefused(Refused):
    def setUp(self):
        self.book = Book(Kinds(PETS), NAMES)

    def test_fillings(self):
        for ask in (is_term, run):
            ask(self.book, ["dog"] * 12, 11)
            for number in (13, 14, 93):
                self.refused(TooMany, ask, self.book, ["dog"] * number, 0)
                self.refused(TooMany, ask, self.book, ("dog",) * number, 0)
            for wrong in ("x", "", "Dog", "meet", "abcdefghi", "dog "):
                self.refused_word(NoKind, wrong, ask, self.book, [wrong], 0)
                self.refused_word(NoKind, wrong, ask, self.book, ("dog", wrong, "y"), 0)
                self.refused_word(NoKind, wrong, ask, self.book, ["dog"] * 11 + [wrong], 0)

    def test_which_goes_first(self):
        for ask in (is_term, run):
            self.refused(TooMany, ask, self.book, ["x"] * 13, ("none", 9))
            self.refused(TooMany, ask, self.book, ["dog"] * 13, 13)
            self.refused_word(NoKind, "x", ask, self.book, ["dog", "x", "y"], ("none", 9))
            self.refused_word(NoKind, "x", ask, self.book, ["x"], 1)
            self.refused_word(NoKind, "x", ask, self.book, ["x"], chain_of(90))
        self.refused(NoTerm, run, self.book, ["dog"], 1)
        self.assertIs(is_term(self.book, ["dog"], 1), False)

    def test_a_term_is_looked_at_ahead_of_its_run(self):
        # The first part ends, the second is no term.
        self.refused(NoTerm, run, self.book, ["stone"], ("meet", ("up", 0), ("none", 0)))
        self.refused(NoTerm, run, self.book, ["stone"], ("meet", ("up", 0), 1))


class Run(Refused):
    def setUp(self):
        self.book = Book(Kinds(PETS), NAMES)

    def test_a_number(self):
        self.assertEqual(run(self.book, ["dog", "cat"], 0), ("kind", "dog"))
        self.assertEqual(run(self.book, ("dog", "cat"), 1), ("kind", "cat"))

    def test_a_deed(self):
        self.assertEqual(run(self.book, ["dog", "cat"], ("meet", 0, 1)), ("kind", "pet"))
        self.assertEqual(run(self.book, ["dog", "cat"], ("meet", 1, 0)), ("kind", "thing"))
        self.assertEqual(run(self.book, ["pup"], ("up", ("up", ("up", 0)))), ("kind", "thing"))
        self.assertEqual(run(self.book, ["pup", "cat"], ("meet", ("up", 0), 1)), ("kind", "pet"))
        self.assertEqual(run(self.book, ["dog", "cat"], ("meet", ("meet", 1, 0), 1)), ("kind", "stone"))

    def test_none(self):
        self.assertEqual(run(self.book, ["stone"], ("up", 0)), ("none", (), ("stone",)))
        self.assertEqual(run(self.book, ["dog", "cat"], ("still", 0, 1, 0)), ("none", (), ("dog", "cat", "dog")))
        self.assertEqual(run(self.book, ["stone", "dog"], ("meet", 1, ("up", 0))), ("none", (1,), ("stone",)))
        term = ("four", 1, 1, ("up", ("meet", 1, ("up", 0))), 1)
        self.assertEqual(run(self.book, ["stone", "dog"], term), ("none", (2, 0, 1), ("stone",)))

    def test_clash(self):
        self.assertEqual(run(self.book, ["cat"], ("up", 0)), ("clash", (), ("cat",), 2, 3))
        self.assertEqual(run(self.book, ["cat"], ("meet", 0, ("up", 0))), ("clash", (1,), ("cat",), 2, 3))
        self.assertEqual(run(self.book, ["cat"], ("up", ("meet", 0, ("up", 0)))), ("clash", (0, 1), ("cat",), 2, 3))

    def test_the_first_from_the_left_ends_the_run(self):
        filling = ["stone", "cat"]
        self.assertEqual(run(self.book, filling, ("meet", ("up", 0), ("up", 1))), ("none", (0,), ("stone",)))
        self.assertEqual(run(self.book, filling, ("meet", ("up", 1), ("up", 0))), ("clash", (0,), ("cat",), 2, 3))
        term = ("meet", ("meet", ("up", 1), ("up", 0)), ("up", 0))
        self.assertEqual(run(self.book, filling, term), ("clash", (0, 0), ("cat",), 2, 3))

    def test_parts_run_ahead_of_the_whole(self):
        # No deed of still fits anything, but its parts are run first.
        self.assertEqual(run(self.book, ["stone"], ("still", 0, ("up", 0), 0)), ("none", (1,), ("stone",)))

    def test_names_on_large_boards(self):
        rows = plain_rows(24)
        book = Book(Kinds(rows), [("four", 4, ((("a", "b", "c", "d"), "x"),))])
        self.assertEqual(run(book, list("abcd"), ("four", 0, 1, 2, 3)), ("kind", "x"))
        self.assertEqual(run(book, list("abcd"), ("four", 3, 2, 1, 0)), ("none", (), ("d", "c", "b", "a")))

    def test_drawn(self):
        random = Random(371)
        ends = {"kind": 0, "none": 0, "clash": 0}
        for book in drawn_books(37, 300, most_deeds=12):
            made = book.made()
            for turn in range(8):
                filling = draw_filling(random, book, random.randint(1, 4))
                term = draw_term(random, book, len(filling), random.randint(1, 5))
                if book.is_term(len(filling), term):
                    answer = run(made, random.choice((list, tuple))(filling), term)
                    self.assertIsInstance(answer, tuple)
                    self.assertEqual(answer, book.run(filling, term))
                    ends[answer[0]] += 1
        self.assertGreater(min(ends.values()), 30)

    def test_calls_of_one_name_are_told_as_its_board_tells(self):
        book = OwnBook(PETS, NAMES)
        for pair in product(book.words, repeat=2):
            self.assertEqual(run(self.book, pair, ("meet", 0, 1)), book.run(pair, ("meet", 0, 1)))


class TheAskersOwn(Refused):
    def test_what_is_handed_in(self):
        book = Book(Kinds(PETS), NAMES)
        filling = ["dog", "cat"]
        first = run(book, filling, ("meet", 0, 1))
        self.assertEqual(filling, ["dog", "cat"])
        filling.reverse()
        self.assertEqual(run(book, filling, ("meet", 0, 1)), ("kind", "thing"))
        self.assertEqual(first, ("kind", "pet"))
        self.assertEqual(run(book, ["dog", "cat"], ("meet", 0, 1)), first)
        self.assertEqual(book.names(), NAMES)

    def test_two_books_by_turns(self):
        one = Book(Kinds(PETS), [("up", 1, ((("dog",), "cat"),))])
        other = Book(Kinds(PETS), [("up", 1, ((("dog",), "pup"),))])
        for turn in range(3):
            self.assertEqual(run(one, ["dog"], ("up", 0)), ("kind", "cat"))
            self.assertEqual(run(other, ["dog"], ("up", 0)), ("kind", "pup"))
            self.assertEqual(run(one, ["cat"], ("up", 0)), ("none", (), ("cat",)))
