"""Points 10 and 14, and what point 2 says of boards."""

from itertools import product

from manydeeds.boards import Board
from manydeeds.calls import told
from manydeeds.errors import NoBoard, NoDeed, Same, TooMany
from manydeeds.kinds import Kinds
from own import SHAPES, drawn
from refusals import Refused
from samples import PETS, plain_rows

WORDS = [word for word, ups in PETS]
PAIRS = list(product(WORDS, repeat=2))
TRIPLES = list(product(WORDS, repeat=3))


class Making(Refused):
    def setUp(self):
        self.book = Kinds(PETS)

    def test_told_as_handed_in(self):
        for places in (1, 2, 3, 4):
            for deeds in ([], [("dog",) * places], [("dog",) * places, ("stone",) * places, ("cat",) * places]):
                for handed in (list(deeds), tuple(deeds)):
                    board = Board(self.book, places, handed)
                    self.assertEqual(board.places(), places)
                    self.assertEqual(board.deeds(), deeds)
                    self.assertIsInstance(board.deeds(), list)
                    self.assertEqual(board.kinds().rows(), PETS)
                    self.assertTrue(all(isinstance(deed, tuple) for deed in board.deeds()))

    def test_places(self):
        for places in (0, 5, -1, 6, 10 ** 59, -10 ** 59):
            self.refused(NoBoard, Board, self.book, places, [])
            self.refused(NoBoard, Board, self.book, places, ())
        for places in (1, 4):
            self.assertEqual(Board(self.book, places, ()).places(), places)

    def test_number_of_deeds(self):
        self.assertEqual(Board(self.book, 3, TRIPLES[:64]).deeds(), TRIPLES[:64])
        for number in (65, 66, 93):
            self.refused(NoBoard, Board, self.book, 3, TRIPLES[:number])
            self.refused(NoBoard, Board, self.book, 3, tuple(TRIPLES[:number]))

    def test_no_deed(self):
        for wrong in ((), ("dog",), ("dog",) * 3, ("dog",) * 4, ("dog",) * 8, ("dog", "x"), ("x", "dog"),
                      ("", "dog"), ("dog", "Dog"), ("dog ", "dog"), ("dog", "abcdefghi")):
            for ahead in (0, 1, 5):
                deeds = PAIRS[:ahead] + [wrong] + PAIRS[ahead:ahead + 2]
                self.refused_number(NoDeed, ahead, Board, self.book, 2, deeds)
                self.refused_number(NoDeed, ahead, Board, self.book, 2, tuple(deeds))
        for places in (1, 2, 3, 4):
            self.refused_number(NoDeed, 0, Board, self.book, places, [()])
            self.refused_number(NoDeed, 0, Board, self.book, places, [("dog",) * (places + 1)])
            self.refused_number(NoDeed, 0, Board, self.book, places, [("dog",) * (places - 1)])

    def test_same(self):
        for first, second in ((0, 1), (0, 4), (2, 3), (1, 4)):
            deeds = PAIRS[:5]
            deeds[second] = deeds[first]
            self.refused_number(Same, second, Board, self.book, 2, deeds)
            self.refused_number(Same, second, Board, self.book, 2, tuple(deeds))

    def test_turned_kinds_are_not_the_same(self):
        deeds = [("dog", "cat"), ("cat", "dog")]
        self.assertEqual(Board(self.book, 2, deeds).deeds(), deeds)


class WhatGoesFirst(Refused):
    def setUp(self):
        self.book = Kinds(PETS)

    def test_numbers_ahead_of_deeds(self):
        self.refused(NoBoard, Board, self.book, 5, [("x",)])
        self.refused(NoBoard, Board, self.book, 0, [(), ()])
        self.refused(NoBoard, Board, self.book, 1, [("x",)] * 65)
        self.refused(NoBoard, Board, self.book, 1, [("dog",)] * 65)

    def test_deed_by_deed(self):
        dog, cat, wrong = ("dog",), ("cat",), ("x",)
        self.refused_number(NoDeed, 1, Board, self.book, 1, [dog, wrong, dog])
        self.refused_number(Same, 1, Board, self.book, 1, [dog, dog, wrong])
        self.refused_number(NoDeed, 0, Board, self.book, 1, [wrong, wrong])
        self.refused_number(NoDeed, 0, Board, self.book, 1, [wrong, dog, dog])
        self.refused_number(Same, 2, Board, self.book, 1, [dog, cat, cat, dog])
        self.refused_number(NoDeed, 2, Board, self.book, 1, [dog, cat, ("dog", "dog"), dog])


class MoreAndOver(Refused):
    def setUp(self):
        self.book = Kinds(PETS)
        self.board = Board(self.book, 2, [("pet", "pet"), ("dog", "thing")])

    def test_more(self):
        greater = self.board.more(("stone", "dog"))
        self.assertEqual(greater.deeds(), [("pet", "pet"), ("dog", "thing"), ("stone", "dog")])
        self.assertEqual(greater.places(), 2)
        self.assertEqual(greater.kinds().rows(), PETS)
        self.assertEqual(told(greater, ("stone", "dog")), ("deed", 2))
        self.assertEqual(self.board.deeds(), [("pet", "pet"), ("dog", "thing")])
        self.assertEqual(told(self.board, ("stone", "dog")), ("none",))

    def test_more_is_refused_as_the_making(self):
        self.refused_number(NoDeed, 2, self.board.more, ("dog",))
        self.refused_number(NoDeed, 2, self.board.more, ())
        self.refused_number(NoDeed, 2, self.board.more, ("dog", "x"))
        self.refused_number(NoDeed, 2, self.board.more, ("dog", "dog", "dog"))
        self.refused_number(Same, 2, self.board.more, ("pet", "pet"))
        self.refused_number(Same, 2, self.board.more, ("dog", "thing"))
        self.assertEqual(len(self.board.deeds()), 2)

    def test_sixtyfourth_and_sixtyfifth(self):
        board = Board(self.book, 3, TRIPLES[:63]).more(TRIPLES[63])
        self.assertEqual(board.deeds(), TRIPLES[:64])
        for call in (TRIPLES[64], TRIPLES[0], ("x", "x", "x"), ()):
            self.refused(NoBoard, board.more, call)

    def test_over(self):
        greater = self.book.more("rock", ["stone"]).tied("stone", "thing")
        board = self.board.over(greater)
        self.assertEqual(board.kinds().rows(), greater.rows())
        self.assertEqual(board.places(), 2)
        self.assertEqual(board.deeds(), self.board.deeds())
        self.assertEqual(told(board, ("dog", "rock")), ("deed", 1))
        self.assertEqual(told(board, ("pup", "stone")), ("deed", 1))
        self.assertEqual(told(self.board, ("pup", "stone")), ("none",))
        self.assertEqual(self.board.kinds().rows(), PETS)

    def test_over_is_refused_as_the_making(self):
        lesser = Kinds([row for row in PETS if row[0] in ("thing", "pet", "beast")])
        self.refused_number(NoDeed, 1, self.board.over, lesser)
        self.refused_number(NoDeed, 0, self.board.over, Kinds([("dog", ()), ("thing", ())]))
        self.assertEqual(self.board.over(Kinds([("pet", ()), ("dog", ()), ("thing", ())])).deeds(), self.board.deeds())
        self.assertEqual(Board(self.book, 2, ()).over(lesser).deeds(), [])


class Calls(Refused):
    def test_in_order(self):
        book = Kinds([("b", ()), ("a", ("b",)), ("c", ())])
        self.assertEqual(Board(book, 1, ()).calls(), [("b",), ("a",), ("c",)])
        self.assertEqual(Board(book, 2, [("a", "b")]).calls(), [
            ("b", "b"), ("b", "a"), ("b", "c"), ("a", "b"), ("a", "a"), ("a", "c"), ("c", "b"), ("c", "a"), ("c", "c")])

    def test_drawn(self):
        for own in drawn(14, 40, SHAPES):
            calls = own.board().calls()
            self.assertIsInstance(calls, list)
            self.assertEqual(calls, own.calls())

    def test_just_so_many_and_some_more(self):
        for kinds, places in ((24, 1), (22, 2), (8, 3), (4, 4), (1, 4)):
            calls = Board(Kinds(plain_rows(kinds)), places, ()).calls()
            self.assertEqual(len(calls), kinds ** places)
        for kinds, places in ((23, 2), (24, 2), (9, 3), (24, 3), (5, 4), (24, 4)):
            self.refused(TooMany, Board(Kinds(plain_rows(kinds)), places, ()).calls)

    def test_all_but_their_list_is_asked_of_large_boards(self):
        board = Board(Kinds(plain_rows(24)), 4, [("a", "b", "c", "d")])
        self.assertEqual(told(board, ("a", "b", "c", "d")), ("deed", 0))
        self.assertEqual(board.more(("a",) * 4).over(Kinds(plain_rows(23))).deeds(), [("a", "b", "c", "d"), ("a",) * 4])


class TheAskersOwn(Refused):
    def test_deeds_handed_in_stay_and_are_not_kept(self):
        deeds = [("dog",), ("cat",)]
        board = Board(Kinds(PETS), 1, deeds)
        self.assertEqual(deeds, [("dog",), ("cat",)])
        deeds.append(("stone",))
        deeds[0] = ("x",)
        self.assertEqual(board.deeds(), [("dog",), ("cat",)])
        self.assertEqual(told(board, ("stone",)), ("none",))

    def test_told_lists(self):
        board = Board(Kinds(PETS), 1, [("dog",), ("cat",)])
        for question in (board.deeds, board.calls, lambda: board.more(("pet",)).deeds(), lambda: board.kinds().words()):
            answer = question()
            kept = list(answer)
            answer.append("x")
            answer[0] = "y"
            self.assertEqual(question(), kept)

    def test_boards_made_from_others_leave_those(self):
        board = Board(Kinds(PETS), 1, [("dog",), ("cat",)])
        answers = [told(board, call) for call in board.calls()]
        for turn in range(2):
            greater = board.more(("pup",))
            other = board.over(board.kinds().tied("stone", "dog"))
            greater.more(("stone",))
            self.assertEqual(told(greater, ("pup",)), ("deed", 2))
            self.assertEqual(told(other, ("stone",)), ("deed", 0))
            self.assertEqual([told(board, call) for call in board.calls()], answers)
            self.assertEqual(board.deeds(), [("dog",), ("cat",)])
            self.assertEqual(board.kinds().rows(), PETS)
