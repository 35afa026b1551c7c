"""Points 38, 39 and 40, the last row of point 3, and what points 2, 14 and 22 say of smooth books."""

from itertools import product
from random import Random

from manydeeds.books import Book
from manydeeds.errors import NoKind, NoTerm, TooMany
from manydeeds.kinds import Kinds
from manydeeds.smooth import comes, smooth
from manydeeds.terms import is_term, run
from own import Own, OwnBook, draw_filling, draw_own, draw_term, drawn_books
from refusals import Refused
from samples import ALPHABET, PETS, plain_rows


def crown(word, number):
    """A kind with so many below it, itself among them."""
    return [(word, ())] + [(word + letter, (word,)) for letter in ALPHABET[:number - 1]]


def draw_smooth(random, number):
    """A book whose boards are mended, and whose deeds make the kind of one of their places, or all the same."""
    first = draw_own(random, number, 1, 0)
    names = []
    for word in ("meet", "call", "give")[:random.randint(1, 3)]:
        places = random.randint(1, 2)
        # Drawn over other kinds, but with the same words.
        drawn = draw_own(random, number, places, 4).deeds
        deeds = Own(first.rows, places, drawn).mend()[1].deeds
        place, same = random.choice((0, places - 1, None)), random.choice(first.words)
        names.append((word, places, tuple((deed, same if place is None else deed[place]) for deed in deeds)))
    return OwnBook(first.rows, names)


def call_term(word, places):
    return (word,) + tuple(range(places))


def calls_that_part(book, made):
    """All (name, low, high) of terms of one call that break the promise, as the program runs them."""
    found = []
    for word, board in book.boards.items():
        answers = {call: run(made, call, call_term(word, board.places)) for call in board.calls()}
        for low, high in product(answers, repeat=2):
            if board.within(low, high) and answers[high][0] == "kind":
                if answers[low][0] != "kind" or (answers[low][1], answers[high][1]) not in book.pairs:
                    found.append((word, low, high))
    return found


class Smooth(Refused):
    def setUp(self):
        self.kinds = Kinds(PETS)

    def told(self, *names):
        return smooth(Book(self.kinds, list(names)))

    def test_smooth(self):
        self.assertEqual(self.told(), ("smooth",))
        self.assertEqual(self.told(("still", 2, ())), ("smooth",))
        self.assertEqual(self.told(("one", 1, ((("pet",), "stone"),))), ("smooth",))
        self.assertEqual(self.told(("two", 1, ((("dog",), "pup"), (("pet",), "dog")))), ("smooth",))
        self.assertEqual(self.told(("far", 1, ((("dog",), "dog"), (("stone",), "thing")))), ("smooth",))

    def test_rough(self):
        self.assertEqual(self.told(("up", 1, ((("dog",), "pet"), (("pet",), "dog")))), ("rough", "up", 0, 1))
        self.assertEqual(self.told(("up", 1, ((("pet",), "dog"), (("dog",), "pet")))), ("rough", "up", 1, 0))
        self.assertEqual(self.told(("up", 1, ((("pet",), "dog"), (("dog",), "cat")))), ("rough", "up", 1, 0))

    def test_the_first_two_by_one_and_then_by_other(self):
        deeds = ((("thing",), "pup"), (("pet",), "pup"), (("cat",), "stone"), (("dog",), "stone"))
        self.assertEqual(self.told(("up", 1, deeds)), ("rough", "up", 2, 0))
        self.assertEqual(self.told(("up", 1, deeds[::-1])), ("rough", "up", 0, 2))
        self.assertEqual(self.told(("up", 1, deeds[1:] + deeds[:1])), ("rough", "up", 1, 0))
        # The lesser number of the two counts for nothing where it is the other.
        deeds = ((("thing",), "pup"), (("pet",), "stone"), (("cat",), "pup"))
        self.assertEqual(self.told(("up", 1, deeds)), ("rough", "up", 1, 0))

    def test_two_that_are_far_apart_make_what_they_like(self):
        deeds = ((("dog", "thing"), "pup"), (("stone", "pup"), "thing"), (("cat", "stone"), "stone"))
        self.assertEqual(self.told(("meet", 2, deeds)), ("smooth",))

    def test_a_clash(self):
        deeds = ((("pet",), "pet"), (("beast",), "pet"))
        self.assertEqual(self.told(("up", 1, deeds)), ("clash", "up", ("dog",), 0, 1))
        deeds = ((("stone",), "pet"), (("beast",), "pet"), (("dog",), "pup"), (("pet",), "pet"))
        self.assertEqual(self.told(("up", 1, deeds)), ("clash", "up", ("cat",), 1, 3))

    def test_in_a_name_the_clash_goes_first(self):
        deeds = ((("dog",), "pet"), (("pet",), "dog"), (("beast",), "dog"))
        self.assertEqual(self.told(("up", 1, deeds)), ("clash", "up", ("cat",), 1, 2))

    def test_name_by_name(self):
        clash = ("clash", 1, ((("pet",), "pet"), (("beast",), "pet")))
        rough = ("rough", 1, ((("dog",), "pet"), (("pet",), "dog")))
        plain = ("plain", 1, ((("dog",), "pet"),))
        self.assertEqual(self.told(rough, clash)[:2], ("rough", "rough"))
        self.assertEqual(self.told(clash, rough)[:2], ("clash", "clash"))
        self.assertEqual(self.told(plain, rough, clash)[:2], ("rough", "rough"))
        self.assertEqual(self.told(plain, clash), ("clash", "clash", ("dog",), 0, 1))
        self.assertEqual(self.told(plain), ("smooth",))

    def test_drawn(self):
        random = Random(381)
        told = {"smooth": 0, "rough": 0, "clash": 0}
        books = list(drawn_books(38, 250, most_deeds=8)) + [draw_smooth(random, turn % 5 + 2) for turn in range(60)]
        for book in books:
            answer = smooth(book.made())
            self.assertIsInstance(answer, tuple)
            self.assertEqual(answer, book.smooth())
            told[answer[0]] += 1
        self.assertGreater(min(told.values()), 30)


class LargeBoards(Refused):
    def test_just_512_calls_and_more(self):
        for number, places in ((24, 1), (22, 2), (8, 3), (4, 4)):
            self.assertEqual(smooth(Book(Kinds(plain_rows(number)), [("name", places, ())])), ("smooth",))
        for number, places in ((23, 2), (9, 3), (5, 4), (24, 4)):
            self.refused(TooMany, smooth, Book(Kinds(plain_rows(number)), [("name", places, ())]))

    def test_ahead_of_all_that_is_told(self):
        clash = ("clash", 1, ((("pet",), "pet"), (("beast",), "pet")))
        rough = ("rough", 1, ((("dog",), "pet"), (("pet",), "dog")))
        for names in ([clash], [rough], [clash, rough], []):
            for large in (("large", 4, ()), ("large", 4, ((("dog",) * 4, "dog"),))):
                for spot in range(len(names) + 1):
                    book = Book(Kinds(PETS), names[:spot] + [large] + names[spot:])
                    self.refused(TooMany, smooth, book)


class ThePromise(Refused):
    def test_a_smooth_book_has_no_call_that_parts_and_each_other_one_has(self):
        random = Random(391)
        books = list(drawn_books(39, 200, most_deeds=6)) + [draw_smooth(random, turn % 4 + 2) for turn in range(60)]
        for book in books:
            made = book.made()
            self.assertEqual(smooth(made) == ("smooth",), calls_that_part(book, made) == [])

    def test_terms_of_smooth_books(self):
        random = Random(392)
        ran = 0
        for turn in range(120):
            book = draw_smooth(random, turn % 5 + 2)
            made = book.made()
            self.assertEqual(smooth(made), ("smooth",))
            for draw in range(10):
                filling = draw_filling(random, book, random.randint(1, 3))
                term = draw_term(random, book, len(filling), random.randint(2, 5))
                if not is_term(made, filling, term) or run(made, filling, term)[0] != "kind":
                    continue
                kind = run(made, filling, term)[1]
                for nearer in random.sample(book.nearer(filling), min(len(book.nearer(filling)), 12)):
                    answer = run(made, nearer, term)
                    self.assertEqual(answer[0], "kind")
                    self.assertIn((answer[1], kind), book.pairs)
                    ran += isinstance(term, tuple)
                self.assertEqual(comes(made, filling, term)[0], "holds")
        self.assertGreater(ran, 1000)

    def test_the_name_and_the_two_calls_of_each_other_book(self):
        told = {"rough": 0, "clash": 0}
        for book in drawn_books(393, 600, most_deeds=6):
            made = book.made()
            answer = smooth(made)
            if answer == ("smooth",):
                continue
            told[answer[0]] += 1
            word, board = answer[1], book.boards[answer[1]]
            one, other = board.deeds[answer[-2]], board.deeds[answer[-1]]
            pairs = [(one, other)] if answer[0] == "rough" else [(answer[2], one), (answer[2], other)]
            parting = calls_that_part(book, made)
            for low, high in pairs:
                self.assertIn((word, low, high), parting)
        self.assertGreater(min(told.values()), 50)


class Comes(Refused):
    def setUp(self):
        self.names = [("up", 1, ((("pup",), "dog"), (("dog",), "pet"), (("thing",), "thing"))),
                      ("meet", 2, ((("dog", "thing"), "dog"), (("pup", "thing"), "pup"), (("thing", "dog"), "cat"),
                                   (("thing", "stone"), "cat")))]
        self.book = Book(Kinds(PETS), self.names)

    def test_a_number(self):
        self.assertEqual(comes(self.book, ["pet"], 0), ("holds", ["pup", "dog", "cat", "pet"]))
        self.assertEqual(comes(self.book, ["pet", "stone"], 1), ("holds", ["stone"]))
        self.assertEqual(comes(self.book, ("stone", "pup"), 1), ("holds", ["pup"]))

    def test_as_the_kinds_are_told_each_once(self):
        self.assertEqual(comes(self.book, ["thing"], ("up", 0)), ("holds", ["dog", "pet", "thing"]))
        self.assertEqual(comes(self.book, ["pup"], ("up", ("up", ("up", 0)))), ("holds", ["thing"]))
        turned = Book(Kinds(PETS[::-1]), self.names)
        self.assertEqual(comes(turned, ["thing"], ("up", 0)), ("holds", ["thing", "pet", "dog"]))

    def test_falls_with_the_first(self):
        self.assertEqual(comes(self.book, ["stone"], ("up", 0)), ("falls", ("stone",), ("none", (), ("stone",))))
        # With pup and dog as the first thing deeds are told; cat is the next one, then.
        self.assertEqual(comes(self.book, ["thing", "cat"], ("meet", 0, 1)), (
            "falls", ("cat", "cat"), ("none", (), ("cat", "cat"))))
        self.assertEqual(comes(self.book, ["dog", "pet"], ("up", ("meet", 0, 1))), (
            "falls", ("pup", "pup"), ("clash", (0,), ("pup", "pup"), 1, 2)))

    def test_the_filling_itself_counts(self):
        names = [("up", 1, ((("pup",), "pup"),))]
        self.assertEqual(comes(Book(Kinds(PETS), names), ["dog"], ("up", 0)), (
            "falls", ("dog",), ("none", (), ("dog",))))

    def test_things_that_the_term_has_not_count_too(self):
        names = [("up", 1, ((("pup",), "pup"),))]
        book = Book(Kinds(PETS), names)
        self.assertEqual(comes(book, ["thing", "dog"], ("up", 1)), (
            "falls", ("pup", "dog"), ("none", (), ("dog",))))
        self.assertEqual(comes(book, ["thing", "pup"], ("up", 1)), ("holds", ["pup"]))

    def test_falls_is_told_of_a_tuple(self):
        for filling in (["stone"], ("stone",)):
            self.assertIsInstance(comes(self.book, filling, ("up", 0))[1], tuple)

    def test_drawn(self):
        random = Random(401)
        told = {"holds": 0, "falls": 0}
        for book in list(drawn_books(40, 150, most_deeds=12)) + [draw_smooth(random, 4) for turn in range(30)]:
            made = book.made()
            for turn in range(4):
                filling = draw_filling(random, book, random.randint(1, 3))
                term = draw_term(random, book, len(filling), 3)
                if book.is_term(len(filling), term) and len(book.nearer(filling)) <= 512:
                    answer = comes(made, random.choice((list, tuple))(filling), term)
                    self.assertIsInstance(answer, tuple)
                    self.assertEqual(answer, book.comes(filling, term))
                    told[answer[0]] += isinstance(term, tuple)
        self.assertGreater(min(told.values()), 50)


class ComesRefused(Refused):
    def setUp(self):
        self.rows = crown("a", 16) + crown("b", 2) + crown("c", 3) + crown("d", 3)
        self.book = Book(Kinds(self.rows), [("up", 1, ((("a",), "a"), (("b",), "b")))])

    def test_just_512_nearer_fillings_and_some_more(self):
        for filling in (["a", "a", "b"], ["a", "b", "b", "b", "b", "b"], ["b"] * 9, ["b"] * 9 + ["ba"] * 3):
            self.assertEqual(comes(self.book, filling, filling.index("b")), ("holds", ["b", "ba"]))
        for filling in (["a", "a", "c"], ["b"] * 10, ["a"] * 3, ["a"] * 12, ["c"] * 6, ["b"] * 8 + ["c"]):
            self.refused(TooMany, comes, self.book, filling, 0)
        self.assertEqual(comes(self.book, ["c"] * 5 + ["b"], 5), ("holds", ["b", "ba"]))

    def test_just_513(self):
        book = Book(Kinds(crown("a", 19) + crown("b", 3)), [])
        self.assertEqual(comes(book, ["a", "b", "b", "bb"], 3), ("holds", ["bb"]))
        self.refused(TooMany, comes, book, ["a", "b", "b", "b"], 3)

    def test_as_at_terms_and_then_too_many(self):
        self.refused(TooMany, comes, self.book, ["x"] * 13, ("none", 9))
        self.refused_word(NoKind, "x", comes, self.book, ["a", "a", "a", "x", "y"], ("none", 9))
        self.refused(NoTerm, comes, self.book, ["a"] * 12, 12)
        self.refused(NoTerm, comes, self.book, ["a"] * 12, ("none", 9))
        self.refused(NoTerm, comes, self.book, ["a"] * 12, ("up", -1))
        self.refused(TooMany, comes, self.book, ["a"] * 12, ("up", 0))

    def test_no_filling(self):
        for term in (0, ("up", 0), (), "up"):
            self.refused(NoTerm, comes, self.book, [], term)

    def test_a_large_board_is_no_matter(self):
        book = Book(Kinds(PETS), [("four", 4, ((("pup",) * 4, "pup"),))])
        self.assertEqual(comes(book, ["pup"], ("four", 0, 0, 0, 0)), ("holds", ["pup"]))


class TheAskersOwn(Refused):
    def test_what_is_told_and_handed_in(self):
        book = Book(Kinds(PETS), [("up", 1, ((("pet",), "dog"),))])
        filling = ["pet"]
        answer = comes(book, filling, 0)
        answer[1].clear()
        self.assertEqual(filling, ["pet"])
        self.assertEqual(comes(book, filling, 0), ("holds", ["pup", "dog", "cat", "pet"]))
        self.assertEqual(book.makes("up"), ["dog"])

    def test_two_books_by_turns(self):
        one = Book(Kinds(PETS), [("up", 1, ((("pet",), "dog"), (("dog",), "pet")))])
        other = Book(Kinds(PETS), [("up", 1, ((("pet",), "dog"), (("dog",), "pup")))])
        for turn in range(3):
            self.assertEqual(smooth(one), ("rough", "up", 1, 0))
            self.assertEqual(smooth(other), ("smooth",))
            self.assertEqual(comes(one, ["pet"], ("up", 0)), ("holds", ["dog", "pet"]))
            self.assertEqual(comes(other, ["pet"], ("up", 0)), ("holds", ["pup", "dog"]))
