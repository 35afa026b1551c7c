"""Point 35, and what points 2 and 10 say of books of names."""

from itertools import product
from random import Random

from manydeeds.books import Book
from manydeeds.calls import told
from manydeeds.errors import NoBoard, NoDeed, NoKind, NoName, Same, TooMany, Twice
from manydeeds.kinds import Kinds
from own import drawn_books
from refusals import Refused
from samples import PETS, plain_rows

MEET = ("meet", 2, ((("dog", "cat"), "pet"), (("pet", "pet"), "thing")))
CALL = ("call", 1, ((("dog",), "dog"),))
STILL = ("still", 4, ())
PAIRS = list(product([word for word, ups in PETS], repeat=2))


class Making(Refused):
    def setUp(self):
        self.kinds = Kinds(PETS)

    def test_told_as_handed_in(self):
        for names in ([], [MEET], [MEET, CALL], [STILL, CALL, MEET]):
            for handed in (names, tuple(names), [(word, places, list(deeds)) for word, places, deeds in names]):
                book = Book(self.kinds, handed)
                self.assertEqual(book.names(), names)
                self.assertEqual(book.words(), [word for word, places, deeds in names])
                self.assertEqual(book.kinds().rows(), PETS)
                self.assertIsInstance(book.names(), list)
                self.assertIsInstance(book.words(), list)
                self.assertTrue(all(isinstance(name, tuple) for name in book.names()))
                self.assertTrue(all(isinstance(deeds, tuple) for word, places, deeds in book.names()))

    def test_boards_and_makes(self):
        book = Book(self.kinds, [MEET, STILL, CALL])
        self.assertEqual(book.board("meet").deeds(), [("dog", "cat"), ("pet", "pet")])
        self.assertEqual(book.board("meet").places(), 2)
        self.assertEqual(book.board("meet").kinds().rows(), PETS)
        self.assertEqual(book.makes("meet"), ["pet", "thing"])
        self.assertEqual(book.makes("still"), [])
        self.assertEqual((book.board("still").places(), book.board("still").deeds()), (4, []))
        self.assertEqual(told(book.board("meet"), ("pup", "cat")), ("deed", 0))
        self.assertEqual(told(book.board("call"), ("cat",)), ("none",))

    def test_drawn(self):
        for book in drawn_books(35, 60):
            made = Book(Kinds(book.rows), book.names)
            self.assertEqual(made.names(), book.names)
            for word, places, deeds in book.names:
                self.assertEqual(made.makes(word), [kind for call, kind in deeds])
                for call in book.boards[word].calls():
                    self.assertEqual(told(made.board(word), call), book.boards[word].told(call))

    def test_a_name_with_a_kinds_word(self):
        book = Book(self.kinds, [("dog", 1, [(("dog",), "cat")]), ("thing", 1, ())])
        self.assertEqual(book.words(), ["dog", "thing"])
        self.assertEqual(book.makes("dog"), ["cat"])
        self.assertEqual(book.kinds().above("dog"), Kinds(PETS).above("dog"))

    def test_several_deeds_make_one_kind(self):
        name = ("meet", 1, ((("dog",), "dog"), (("cat",), "dog"), (("pet",), "dog")))
        self.assertEqual(Book(self.kinds, [name]).makes("meet"), ["dog", "dog", "dog"])

    def test_eight_and_nine_names(self):
        names = [(letter, 1, ()) for letter in "abcdefghi"]
        self.assertEqual(Book(self.kinds, names[:8]).words(), list("abcdefgh"))
        for number in (9, 10, 93):
            many = [names[k % 9] for k in range(number)]
            self.refused(TooMany, Book, self.kinds, many)
            self.refused(TooMany, Book, self.kinds, tuple(many))

    def test_64_and_65_deeds(self):
        calls = list(product("abcdefghi", repeat=2))
        kinds = Kinds(plain_rows(9))
        deeds = [(call, "a") for call in calls]
        self.assertEqual(len(Book(kinds, [("full", 2, deeds[:64])]).makes("full")), 64)
        self.refused(NoBoard, Book, kinds, [("full", 2, deeds[:65])])
        self.refused(NoBoard, Book, kinds, [("full", 2, tuple(deeds[:65]))])


class WhatIsRefused(Refused):
    def setUp(self):
        self.kinds = Kinds(PETS)

    def test_names_that_are_no_words(self):
        for word in ("", "Meet", "abcdefghi", "a b", "two2", " ", "meet "):
            for ahead in ([], [CALL], [CALL, STILL]):
                self.refused_word(NoName, word, Book, self.kinds, ahead + [(word, 1, ()), MEET])

    def test_twice(self):
        self.refused_word(Twice, "meet", Book, self.kinds, [MEET, MEET])
        self.refused_word(Twice, "meet", Book, self.kinds, [MEET, CALL, ("meet", 1, ())])
        self.refused_word(Twice, "call", Book, self.kinds, (STILL, CALL, CALL, STILL))

    def test_as_the_board(self):
        for places in (0, 5, -1, 10 ** 59):
            self.refused(NoBoard, Book, self.kinds, [CALL, ("meet", places, ())])
        for wrong in ((), ("dog",), ("dog",) * 3, ("dog", "x"), ("", "dog")):
            deeds = [(("dog", "dog"), "dog"), (wrong, "dog")]
            self.refused_number(NoDeed, 1, Book, self.kinds, [CALL, ("meet", 2, deeds)])
        deeds = [(("dog", "dog"), "dog"), (("cat", "dog"), "dog"), (("dog", "dog"), "cat")]
        self.refused_number(Same, 2, Book, self.kinds, [("meet", 2, deeds)])

    def test_the_first_made_that_is_no_kind(self):
        deeds = [(("dog",), "dog"), (("cat",), "x"), (("pup",), "Dog")]
        self.refused_word(NoKind, "x", Book, self.kinds, [("call", 1, deeds)])
        self.refused_word(NoKind, "Dog", Book, self.kinds, [("call", 1, deeds[::-1])])
        for made in ("", "call", "abcdefghi", "dog "):
            self.refused_word(NoKind, made, Book, self.kinds, [MEET, ("call", 1, [(("dog",), made)])])


class WhichGoesFirst(Refused):
    def setUp(self):
        self.kinds = Kinds(PETS)

    def test_too_many_names(self):
        names = [("Meet", 0, ((("x",), "y"),))] * 9
        self.refused(TooMany, Book, self.kinds, names)
        self.refused_word(NoName, "Meet", Book, self.kinds, names[:8])

    def test_within_a_name(self):
        self.refused_word(NoName, "", Book, self.kinds, [("", 9, ((("x",), "y"),))])
        self.refused_word(Twice, "call", Book, self.kinds, [CALL, ("call", 9, ((("x",), "y"),))])
        many = [((word,), "y") for word in "abcdefgh" * 9]
        self.refused(NoBoard, Book, self.kinds, [("meet", 1, many[:65])])
        self.refused(NoBoard, Book, self.kinds, [("meet", 0, many[:1])])
        self.refused_number(NoDeed, 0, Book, self.kinds, [("meet", 1, many[:64])])
        deeds = [(("dog",), "y"), (("dog",), "z")]
        self.refused_number(Same, 1, Book, self.kinds, [("meet", 1, deeds)])
        self.refused_number(NoDeed, 1, Book, self.kinds, [("meet", 1, [(("dog",), "y"), (("x",), "dog")])])
        self.refused_word(NoKind, "y", Book, self.kinds, [("meet", 1, deeds[:1])])

    def test_name_by_name(self):
        wrongs = {"name": ("Meet", 1, ()), "twice": ("call", 1, ()), "board": ("meet", 5, ()),
                  "deed": ("meet", 1, ((("x",), "dog"),)), "made": ("meet", 1, ((("dog",), "x"),))}
        refusals = {"name": NoName, "twice": Twice, "board": NoBoard, "deed": NoDeed, "made": NoKind}
        for first, second in product(wrongs, repeat=2):
            self.refused(refusals[first], Book, self.kinds, [CALL, wrongs[first], wrongs[second]])

    def test_a_name_is_not_twice_by_one_behind_it(self):
        deeds = ((("dog",), "x"),)
        self.refused_word(NoKind, "x", Book, self.kinds, [("meet", 1, deeds), ("meet", 1, ())])


class Asking(Refused):
    def test_no_name(self):
        for names in ([], [MEET, CALL]):
            book = Book(Kinds(PETS), names)
            for word in ("still", "dog", "", "Meet", "meet ", "abcdefghi"):
                self.refused_word(NoName, word, book.board, word)
                self.refused_word(NoName, word, book.makes, word)


class TheAskersOwn(Refused):
    def test_what_is_handed_in(self):
        deeds = [(("dog", "cat"), "pet"), (("pet", "pet"), "thing")]
        names = [("meet", 2, deeds), CALL]
        book = Book(Kinds(PETS), names)
        self.assertEqual(names, [("meet", 2, deeds), CALL])
        self.assertEqual(deeds, list(MEET[2]))
        deeds.append((("cat", "cat"), "cat"))
        deeds[0] = "x"
        names.clear()
        self.assertEqual(book.names(), [MEET, CALL])
        self.assertEqual(book.makes("meet"), ["pet", "thing"])
        self.assertEqual(book.board("meet").deeds(), [("dog", "cat"), ("pet", "pet")])

    def test_what_is_told(self):
        book = Book(Kinds(PETS), [MEET, CALL])
        for ask, *handed in ((book.names,), (book.words,), (book.makes, "meet"), (book.kinds().words,),
                             (book.board("meet").deeds,), (book.kinds().rows,)):
            answer = ask(*handed)
            kept = list(answer)
            answer.append("x")
            answer[0] = "y"
            self.assertEqual(ask(*handed), kept)

    def test_a_greater_board_is_another_one(self):
        book = Book(Kinds(PETS), [MEET])
        book.board("meet").more(("cat", "cat"))
        book.kinds().more("new", [])
        self.assertEqual(book.names(), [MEET])
        self.assertEqual(book.kinds().rows(), PETS)

    def test_books_by_turns(self):
        random = Random(351)
        books = [(book, book.made()) for book in drawn_books(352, 6)]
        for turn in range(100):
            book, made = random.choice(books)
            self.assertEqual(made.names(), book.names)
            self.assertEqual(made.kinds().rows(), book.rows)
