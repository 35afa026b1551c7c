"""Points 41, 42 and 43, and what points 2, 4, 8, 10 and 35 say of texts."""

import re
from itertools import product
from random import Random

from manydeeds.books import Book
from manydeeds.errors import NoBoard, NoDeed, NoKind, NoTerm, NoText, Ring, Same, TooMany, Twice
from manydeeds.kinds import Kinds
from manydeeds.terms import is_term
from manydeeds.texts import book_text, read_book, read_term, term_text
from own import depth, draw_term, drawn_books, parts
from refusals import Refused
from samples import ALPHABET, PETS, ladder_rows, within_calls

NAMES = [("meet", 2, ((("dog", "pet"), "dog"), (("pet", "pet"), "thing"))), ("still", 4, ()),
         ("call", 1, ((("dog",), "pup"),))]
ROWS = [
    "kind pup under dog", "kind dog under pet beast", "kind cat under pet beast", "kind pet under thing",
    "kind beast under thing", "kind thing", "kind stone", "name meet 2", "deed meet dog pet gives dog",
    "deed meet pet pet gives thing", "name still 4", "name call 1", "deed call dog gives pup",
]


def told_alike(one, other):
    return one.kinds().rows() == other.kinds().rows() and one.names() == other.names()


class BookTexts(Refused):
    def test_written(self):
        self.assertEqual(book_text(Book(Kinds(PETS), NAMES)), "\n".join(ROWS))
        self.assertEqual(book_text(Book(Kinds([("thing", ())]), ())), "kind thing")
        self.assertEqual(book_text(Book(Kinds([("a", ())]), [("a", 3, [(("a",) * 3, "a")])])),
                         "kind a\nname a 3\ndeed a a a a gives a")

    def test_read(self):
        book = read_book("\n".join(ROWS))
        self.assertIsInstance(book, Book)
        self.assertEqual((book.kinds().rows(), book.names()), (PETS, NAMES))
        book = read_book("kind thing")
        self.assertEqual((book.kinds().rows(), book.names()), ([("thing", ())], []))

    def test_words_of_the_forms_as_kinds_and_names(self):
        words = ("under", "gives", "kind", "name", "deed", "with")
        rows = [(word, words[:k]) for k, word in enumerate(words)]
        for name in words:
            for places in (1, 2, 3, 4):
                deeds = ((words[:places], "gives"), (("gives",) * places, "under"), (("deed",) * places, "kind"))
                book = Book(Kinds(rows), [(name, places, deeds)])
                self.assertTrue(told_alike(read_book(book_text(book)), book))
        self.assertEqual(read_book("kind under\nkind kind under under").kinds().rows(), [
            ("under", ()), ("kind", ("under",))])
        self.assertEqual(read_book("kind gives\nname gives 1\ndeed gives gives gives gives").names(), [
            ("gives", 1, ((("gives",), "gives"),))])

    def test_great_books(self):
        rows = ladder_rows()
        calls = list(product(ALPHABET, repeat=4))[::700]
        names = [(letter * 8, 4, tuple((call, call[0]) for call in calls[k:k + 40]))
                 for k, letter in enumerate("stuvwxyz")]
        names[0] = ("ssssssss", 4, tuple((call, "a") for call in list(product("abcdefghi", repeat=4))[:64]))
        book = Book(Kinds(rows), names)
        self.assertTrue(told_alike(read_book(book_text(book)), book))

    def test_drawn(self):
        for book in drawn_books(41, 200, most_places=4, most_deeds=6):
            made = book.made()
            self.assertEqual(book_text(made), book.text())
            back = read_book(book.text())
            self.assertEqual((back.kinds().rows(), back.names()), (book.rows, book.names))
            self.assertEqual(book_text(back), book.text())

    def test_deeds_that_do_not_stand_behind_their_names(self):
        rows = ["kind a", "kind b under a", "name one 1", "name two 2", "deed two a b gives a", "deed one b gives b",
                "name three 1", "deed two b b gives b", "deed one a gives a"]
        book = read_book("\n".join(rows))
        self.assertEqual(book.names(), [("one", 1, ((("b",), "b"), (("a",), "a"))),
                                        ("two", 2, ((("a", "b"), "a"), (("b", "b"), "b"))), ("three", 1, ())])
        self.assertTrue(told_alike(read_book(book_text(book)), book))
        drawn = Random(411)
        for book in drawn_books(412, 60):
            rows = book.text().split("\n")
            heads = [row for row in rows if not row.startswith("deed")]
            deeds = [row for row in rows if row.startswith("deed")]
            drawn.shuffle(deeds)
            mixed = read_book("\n".join(heads + deeds))
            self.assertEqual(mixed.words(), [word for word, places, deeds in book.names])
            for word in mixed.words():
                own = [row.split(" ") for row in deeds if row.split(" ")[1] == word]
                self.assertEqual(mixed.board(word).deeds(), [tuple(words[2:-2]) for words in own])
                self.assertEqual(mixed.makes(word), [words[-1] for words in own])


class SpoiltTexts(Refused):
    def refused_row(self, row, rows):
        text = rows if isinstance(rows, str) else "\n".join(rows)
        self.assertEqual(self.refused(NoText, read_book, text).row, row)

    def test_blanks(self):
        for k, row in enumerate(ROWS):
            words = row.split(" ")
            spoilt = [" " + row, row + " ", "", " ", "  ", "".join(words), row.replace(" ", "  ", 1)]
            spoilt += ["  ".join((" ".join(words[:cut]), " ".join(words[cut:]))) for cut in range(1, len(words))]
            for wrong in spoilt:
                self.refused_row(k + 1, ROWS[:k] + [wrong] + ROWS[k + 1:])
            self.refused_row(k + 1, ROWS[:k] + ["", row] + ROWS[k + 1:])

    def test_a_blank_less(self):
        # Joined words are other words, and may be none, or too long, or one too few.
        for k, wrong in ((0, "kindpup under dog"), (0, "kind pupunder dog"), (0, "kind pup underdog"),
                         (7, "namemeet 2"), (7, "name meet2"), (8, "deedmeet dog pet gives dog"),
                         (8, "deed meetdog pet gives dog"),
                         (8, "deed meet dogpet gives dog"), (8, "deed meet dog petgives dog"),
                         (8, "deed meet dog pet givesdog")):
            self.refused_row(k + 1, ROWS[:k] + [wrong] + ROWS[k + 1:])

    def test_ends(self):
        self.refused_row(1, "")
        self.refused_row(1, " ")
        self.refused_row(1, "\n")
        self.refused_row(len(ROWS) + 1, ROWS + [""])
        self.refused_row(1, [""] + ROWS)
        self.refused_row(2, "kind a\n")
        self.refused_row(1, "\nkind a")
        self.refused_row(2, "kind a\n\nkind b")

    def test_words_that_are_none(self):
        for wrong in ("", "Dog", "abcdefghi", "two2", "-", "1", "dog,", "~"):
            for k, row in enumerate(ROWS):
                words = row.split(" ")
                for spot in range(len(words)):
                    spoilt = words[:spot] + [wrong] + words[spot + 1:]
                    if words[0] == "name" and spot == 2 and wrong == "1":
                        continue
                    self.refused_row(k + 1, ROWS[:k] + [" ".join(spoilt)] + ROWS[k + 1:])

    def test_places(self):
        for wrong in ("0", "5", "6", "9", "10", "02", "+2", "-2", "two", "2.", "12", ""):
            self.refused_row(8, ROWS[:7] + ["name meet " + wrong] + ROWS[8:])
            self.refused_row(2, "kind a\nname b " + wrong)
        for places in (1, 2, 3, 4):
            self.assertEqual(read_book(f"kind a\nname b {places}").names(), [("b", places, ())])

    def test_forms(self):
        wrongs = ["kind", "kind a b", "kind a under", "kind a b under c", "kind a above b", "kind a b c d",
                  "kind a under b, c", "Kind a", "a", "tie a b", "show", "back", "name", "name a", "name a 1 2",
                  "name 1 a", "name a b", "names a 1", "name a 1 under b", "deed", "deed a", "deed a gives b",
                  "deed a b gives", "deed a gives", "deed a b c", "deed a b c d", "deed a b gives c d",
                  "deed gives b", "deed a b give c", "deed a b c gives", "# kind a", "kind a # b"]
        for wrong in wrongs:
            self.refused_row(1, [wrong])
            self.refused_row(3, ["kind a", "kind b", wrong])
            self.refused_row(4, ["kind a", "kind b", "name a 1", wrong])
        self.assertEqual(read_book("kind under").kinds().words(), ["under"])

    def test_rows_of_kinds_come_first(self):
        self.refused_row(1, ["name meet 2"])
        self.refused_row(1, ["name meet 2", "kind a"])
        self.refused_row(1, ["deed meet a gives a"])
        self.refused_row(3, ["kind a", "name meet 1", "kind b"])
        self.refused_row(4, ["kind a", "name meet 1", "deed meet a gives a", "kind b"])
        self.refused_row(3, ["kind a", "name meet 1", "kind a"])

    def test_deeds_and_their_names(self):
        self.refused_row(2, ["kind a", "deed meet a gives a", "name meet 1"])
        self.refused_row(2, ["kind a", "deed meet a gives a"])
        self.refused_row(3, ["kind a", "name meet 1", "deed a a gives a", "name a 1"])
        for places in (1, 2, 3, 4):
            for number in (1, 2, 3, 4, 5, 8):
                rows = ["kind a", f"name meet {places}", "deed meet " + "a " * number + "gives a"]
                if number == places:
                    self.assertEqual(read_book("\n".join(rows)).makes("meet"), ["a"])
                else:
                    self.refused_row(3, rows)

    def test_the_first_of_several_names_counts(self):
        rows = ["kind a", "name meet 2", "name meet 1"]
        self.refused_row(4, rows + ["deed meet a gives a"])
        self.refused_word(Twice, "meet", read_book, "\n".join(rows + ["deed meet a a gives a"]))
        self.refused_word(Twice, "meet", read_book, "\n".join(rows))
        # The deed belongs to the first one, whose board is made ahead of the other name.
        self.refused_number(NoDeed, 0, read_book, "\n".join(rows + ["deed meet a b gives a"]))

    def test_the_first_row_that_is_not_so(self):
        random = Random(421)
        for turn in range(100):
            spots = sorted(random.sample(range(len(ROWS)), 3))
            rows = list(ROWS)
            for spot in spots:
                rows[spot] = random.choice(("", "kind", "deed meet dog", rows[spot] + " ", "x"))
            self.refused_row(spots[0] + 1, rows)


class BooksRefused(Refused):
    def read(self, *rows):
        return read_book("\n".join(rows))

    def test_a_spoilt_row_goes_ahead_of_all(self):
        for rows in (["kind a", "kind a"], ["kind a under b"], ["kind a under a"], ["kind a"] * 25,
                     ["kind a", "name b 1", "name b 1"], ["kind a", "name b 1", "deed b c gives a"]):
            self.assertEqual(self.refused(NoText, self.read, *rows, "").row, len(rows) + 1)
            self.assertEqual(self.refused(NoText, self.read, *rows, "deed x a gives a").row, len(rows) + 1)

    def test_as_the_kinds(self):
        self.assertEqual(len(self.read(*[f"kind {letter}" for letter in ALPHABET]).kinds().words()), 24)
        self.refused(TooMany, self.read, *[f"kind {letter}" for letter in ALPHABET + "y"])
        self.refused(TooMany, self.read, *["kind a"] * 25)
        self.refused_word(Twice, "a", self.read, "kind a", "kind b", "kind a")
        self.refused(TooMany, self.read, "kind a under " + " ".join("bcdefghij"))
        self.refused_word(NoKind, "b", self.read, "kind a under b")
        self.refused_word(Twice, "b", self.read, "kind b", "kind a under b b")
        self.assertEqual(sorted(self.refused(Ring, self.read, "kind a under b", "kind b under a").ring), ["a", "b"])

    def test_then_as_the_names(self):
        names = [f"name {letter} 1" for letter in "abcdefghi"]
        self.assertEqual(self.read("kind a", *names[:8]).words(), list("abcdefgh"))
        self.refused(TooMany, self.read, "kind a", *names)
        self.refused(TooMany, self.read, "kind a", *["name a 1"] * 9)
        self.refused_word(Twice, "a", self.read, "kind a", "name a 1", "name b 1", "name a 2")
        self.refused_number(NoDeed, 0, self.read, "kind a", "name a 1", "deed a b gives a")
        self.refused_number(Same, 1, self.read, "kind a", "name a 1", "deed a a gives a", "deed a a gives b")
        self.refused_word(NoKind, "b", self.read, "kind a", "name a 1", "deed a a gives b")
        deeds = [f"deed a {one} {two} gives a" for one, two in product("abcdefghi", repeat=2)]
        kinds = [f"kind {letter}" for letter in "abcdefghi"]
        self.assertEqual(len(self.read(*kinds, "name a 2", *deeds[:64]).makes("a")), 64)
        self.refused(NoBoard, self.read, *kinds, "name a 2", *deeds[:65])

    def test_kinds_go_ahead_of_names(self):
        self.refused_word(NoKind, "b", self.read, "kind a under b", *["name a 1"] * 9)
        self.refused_word(Twice, "a", self.read, "kind a", "kind a", "name c 1", "name c 1")


def chain_text(deep):
    return "up(" * (deep - 1) + "0" + ")" * (deep - 1)


def wide_text(number):
    """The text of a term of so many parts, two deep."""
    return "up(" + ", ".join(["0"] * (number - 1)) + ")"


def is_term_text(text):
    """Whether a short text is one of a term: its parts are put together to one sign, from within."""
    text = re.sub(r"(?:^|(?<=\()|(?<=, ))(0|[1-9][0-9]?)(?=$|\)|, )", "#", text)
    while re.search(r"[a-z]{1,8}\(#(, #)*\)", text):
        text = re.sub(r"[a-z]{1,8}\(#(, #)*\)", "#", text)
    return text == "#"


class TermTexts(Refused):
    def both(self, text, term):
        self.assertEqual(read_term(text), term)
        self.assertEqual(term_text(term), text)

    def test_numbers(self):
        for number in range(100):
            self.both(str(number), number)
        self.assertIs(read_term("7").__class__, int)

    def test_tuples(self):
        self.both("meet(0, meet(1, 0))", ("meet", 0, ("meet", 1, 0)))
        self.both("a(99)", ("a", 99))
        self.both("abcdefgh(a(b(c(10))), 0, z(1, 2, 3, 4, 5, 6))",
                  ("abcdefgh", ("a", ("b", ("c", 10))), 0, ("z", 1, 2, 3, 4, 5, 6)))
        self.both("a(b(0), c(1, 2), d(e(3), 4))", ("a", ("b", 0), ("c", 1, 2), ("d", ("e", 3), 4)))
        self.both("with(under(0), gives(kind(1)))", ("with", ("under", 0), ("gives", ("kind", 1))))
        self.assertIsInstance(read_term("a(b(0))")[1], tuple)

    def test_numbers_that_are_none(self):
        for text in ("00", "01", "09", "010", "100", "000", "999", "1234567890", "-1", "+1", "1.", "1 ", " 1", "1 2",
                     "1_0", "1,", "0x1", "(1)", "1()", "1(0)"):
            self.refused(NoTerm, read_term, text)
            self.refused(NoTerm, read_term, f"up({text})")
            self.refused(NoTerm, read_term, f"up(0, {text})")
            self.refused(NoTerm, read_term, f"up({text}, 0)")

    def test_texts_that_are_none(self):
        for text in ("", " ", "a", "up", "()", "(0)", "up()", "up( )", "up(,)", "up(, )", "up(0", "up0)", "up(0))",
                     "up((0)", "up((0))", "up(0) ", " up(0)", "up (0)", "up( 0)", "up(0 )", "up(0,1)", "up(0,  1)",
                     "up(0 , 1)", "up(0, )", "up(0, 1, )", "up(, 0)", "up(0 1)", "up(0)(1)", "up(0)1", "up(0), 1",
                     "0, 1", "up(0), up(1)", "Up(0)", "up2(0)", "abcdefghi(0)", "u p(0)", "up[0]", "up{0}", "up(0;1)",
                     "up(a)", "up(up)", "up(0, a)", "up(a, 0)", ")", "(", ")(", "up)0(", "up(0)up(0)", "up(up(0)",
                     "up(up(0)))", "up(0,, 1)", "up(0, , 1)", "up(), 0", "up(0, up())", "'0'", "up('0')",
                     "up(0, (1))", ", ", ",", "up(0). ", "~", "up(1), (2)", "up(0)), up((0)"):
            self.refused(NoTerm, read_term, text)

    def test_spoilt_in_one_sign(self):
        text = "meet(0, meet(12, up(0)))"
        for spot in range(len(text) + 1):
            for sign in ("", " ", ",", "(", ")", "-", "A", "0", "a", ", "):
                for rest in (text[spot:], text[spot + 1:]):
                    self.assertIs(self.is_read(text[:spot] + sign + rest), is_term_text(text[:spot] + sign + rest))

    def test_drawn_texts(self):
        random = Random(432)
        read = 0
        for turn in range(20000):
            pieces = ("0", "1", "a", "b(", "a(", ")", ", ", ", ", "0)", "12", " ", "(", ",")
            text = "".join(random.choices(pieces, k=turn % 9 + 1))
            self.assertIs(self.is_read(text), is_term_text(text), text)
            read += is_term_text(text)
        self.assertGreater(read, 200)

    def test_deep(self):
        for deep in range(1, 13):
            term = read_term(chain_text(deep))
            self.assertEqual(depth(term), deep)
            self.assertEqual(term_text(term), chain_text(deep))
            self.assertEqual(depth(read_term(f"a(0, {chain_text(deep - 1)})")) if deep > 1 else 1, deep)
        for deep in (13, 14, 50, 200):
            self.refused(NoTerm, read_term, chain_text(deep))
            self.refused(NoTerm, read_term, f"a(0, {chain_text(deep - 1)})")
            self.refused(NoTerm, read_term, f"a({chain_text(deep - 1)}, 0)")
        for text in (chain_text(12), "a(" * 400, chain_text(200), "a(" * 266 + "0" + ")" * 266):
            within_calls(80, lambda: self.is_read(text))
        self.refused(NoTerm, read_term, "a(" * 400)
        self.refused(NoTerm, read_term, "(" * 800)
        self.refused(NoTerm, read_term, ")" * 800)
        self.refused(NoTerm, read_term, "a(" * 266 + ")" * 266)

    def test_parts(self):
        for number in range(2, 41):
            term = read_term(wide_text(number))
            self.assertEqual(parts(term), number)
            self.assertEqual(term_text(term), wide_text(number))
        for number in (41, 42, 80, 200):
            self.refused(NoTerm, read_term, wide_text(number))
        for tail in range(1, 11):
            for number in (40 - tail, 41 - tail):
                text = f"{wide_text(number)[:-1]}, {chain_text(tail)})"
                self.assertEqual(number + tail <= 40, self.is_read(text))

    def is_read(self, text):
        try:
            read_term(text)
        except NoTerm:
            return False
        return True

    def test_drawn(self):
        random = Random(431)
        for book in drawn_books(43, 200, most_places=4):
            for turn in range(5):
                term = draw_term(random, book, random.choice((1, 12, 100)), random.randint(1, 12))
                if parts(term) <= 40:
                    self.assertEqual(read_term(term_text(term)), term)

    def test_names_of_no_book(self):
        book = Book(Kinds(PETS), NAMES)
        self.assertFalse(is_term(book, ["dog"], read_term("none(0)")))
        self.assertFalse(is_term(book, ["dog"], read_term("meet(0)")))
        self.assertTrue(is_term(book, ["dog"], read_term("meet(0, 0)")))


class TheAskersOwn(Refused):
    def test_books_read_from_one_text(self):
        text = "\n".join(ROWS)
        one, other = read_book(text), read_book(text)
        one.names().clear()
        one.makes("meet").clear()
        self.assertTrue(told_alike(one, other))
        self.assertEqual(book_text(one), text)
        self.assertEqual(book_text(one), book_text(other))

    def test_the_book_stays(self):
        book = Book(Kinds(PETS), NAMES)
        book_text(book)
        self.assertEqual((book.kinds().rows(), book.names()), (PETS, NAMES))
