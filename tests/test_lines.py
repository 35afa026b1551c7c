"""Points 16 and 19, and point 9 where lines are asked."""

from itertools import permutations
from random import Random

from manydeeds.errors import NoKind, NoLine
from manydeeds.kinds import Kinds
from manydeeds.lines import is_line, line_ahead
from own import Own, draw_rows
from refusals import Refused
from samples import ALPHABET, PETS, ladder_rows, within_steps

NO_KINDS = ("x", "", "abcdefghi", "Pup", "pup ", "a" * 72)


class IsLine(Refused):
    def setUp(self):
        self.book = Kinds(PETS)

    def test_lines(self):
        for line in (["pup", "dog", "pet", "beast", "thing"], ["pup", "dog", "beast", "pet", "thing"]):
            self.assertIs(is_line(self.book, "pup", line), True)
            self.assertIs(is_line(self.book, "pup", tuple(line)), True)
        self.assertIs(is_line(self.book, "stone", ["stone"]), True)
        self.assertIs(is_line(self.book, "thing", ["thing"]), True)

    def test_a_kind_is_lacking_or_there_twice(self):
        line = ["pup", "dog", "pet", "beast", "thing"]
        for spot in range(5):
            self.assertIs(is_line(self.book, "pup", line[:spot] + line[spot + 1:]), False)
            self.assertIs(is_line(self.book, "pup", line[:spot + 1] + line[spot:]), False)
            for word in line[:spot] + line[spot + 1:]:
                self.assertIs(is_line(self.book, "pup", line[:spot] + [word] + line[spot + 1:]), False)

    def test_other_kinds_and_no_kinds(self):
        line = ["pup", "dog", "pet", "beast", "thing"]
        for word in ("stone", "cat") + NO_KINDS:
            self.assertIs(is_line(self.book, "pup", line + [word]), False)
            self.assertIs(is_line(self.book, "pup", [word] + line), False)
            for spot in range(5):
                self.assertIs(is_line(self.book, "pup", line[:spot] + [word] + line[spot + 1:]), False)

    def test_other_lengths(self):
        self.assertIs(is_line(self.book, "pup", []), False)
        self.assertIs(is_line(self.book, "stone", []), False)
        self.assertIs(is_line(self.book, "pup", ["pup"]), False)
        self.assertIs(is_line(self.book, "dog", ["pup", "dog", "pet", "beast", "thing"]), False)
        self.assertIs(is_line(self.book, "stone", ["stone"] * 25), False)

    def test_every_order_of_drawn_books(self):
        random = Random(16)
        for turn in range(60):
            own = Own(draw_rows(random, 5), 1, ())
            book = Kinds(own.rows)
            for word in own.words:
                for line in permutations(own.above(word)):
                    self.assertIs(is_line(book, word, list(line)), own.is_line(word, line))

    def test_twentyfour_kinds(self):
        book = Kinds(ladder_rows())
        line = list(ALPHABET[::-1])
        self.assertIs(within_steps(20000, lambda: is_line(book, "x", line)), True)
        for spot in range(23):
            turned = line[:spot] + [line[spot + 1], line[spot]] + line[spot + 2:]
            self.assertIs(is_line(book, "x", turned), False)


class LineAhead(Refused):
    def test_ordinary(self):
        book = Kinds(PETS)
        self.assertEqual(line_ahead(book, "pup", "beast"), ["pup", "dog", "beast", "pet", "thing"])
        self.assertEqual(line_ahead(book, "pup", "pet"), ["pup", "dog", "pet", "beast", "thing"])
        self.assertEqual(line_ahead(book, "stone", "stone"), ["stone"])

    def test_drawn(self):
        random = Random(19)
        for turn in range(150):
            own = Own(draw_rows(random, random.choice((1, 2, 5, 9, 14, 24)), random.choice((1, 2, 4, 8))), 1, ())
            book = Kinds(own.rows)
            for word in own.words:
                for other in own.words:
                    if (word, other) in own.pairs:
                        self.check_line(own, word, other, line_ahead(book, word, other))
                    else:
                        self.refused(NoLine, line_ahead, book, word, other)

    def check_line(self, own, word, other, line):
        self.assertIsInstance(line, list)
        self.assertTrue(own.is_line(word, line))
        ahead = [(high, other) in own.pairs for high in line]
        self.assertEqual(ahead, sorted(ahead, reverse=True))


class WordsThatAreNoKinds(Refused):
    def setUp(self):
        self.book = Kinds(PETS)

    def test_is_line(self):
        for word in NO_KINDS:
            for line in ([], [word], ["pup"], ["pup", "dog", "pet", "beast", "thing"]):
                self.refused_word(NoKind, word, is_line, self.book, word, line)

    def test_line_ahead(self):
        for word in NO_KINDS:
            self.refused_word(NoKind, word, line_ahead, self.book, word, "pup")
            self.refused_word(NoKind, word, line_ahead, self.book, "pup", word)
            self.refused_word(NoKind, word, line_ahead, self.book, word, word)
            self.refused_word(NoKind, word, line_ahead, self.book, word, "y")
            self.refused_word(NoKind, "y", line_ahead, self.book, "y", word)

    def test_not_under(self):
        for word, other in (("thing", "pup"), ("dog", "cat"), ("stone", "thing"), ("pup", "stone"), ("pet", "beast")):
            self.refused(NoLine, line_ahead, self.book, word, other)


class TheAskersOwn(Refused):
    def test_told_and_handed_in_lists(self):
        book = Kinds(PETS)
        line = line_ahead(book, "pup", "beast")
        kept = list(line)
        self.assertIs(is_line(book, "pup", line), True)
        self.assertEqual(line, kept)
        line.reverse()
        line.append("x")
        self.assertEqual(line_ahead(book, "pup", "beast"), kept)
        self.assertEqual(book.rows(), PETS)
        self.assertEqual(book.above("pup"), ["pup", "dog", "pet", "beast", "thing"])
