"""Points 11, 12, 13 and 15, and what points 2 and 3 say of calls."""

from itertools import product

from manydeeds.boards import Board
from manydeeds.calls import fitting, nearest, nexts, told, within
from manydeeds.errors import NoCall
from manydeeds.kinds import Kinds
from own import SHAPES, Own, drawn
from refusals import Refused
from samples import PETS, ladder_rows, plain_rows, within_steps

QUESTIONS = (fitting, nearest, told, nexts)
MEET = [("thing", "thing"), ("pet", "thing"), ("thing", "pet"), ("dog", "cat"), ("stone", "stone")]


class Within(Refused):
    def test_ordinary(self):
        book = Kinds(PETS)
        self.assertIs(within(book, ("pup",), ("thing",)), True)
        self.assertIs(within(book, ("thing",), ("pup",)), False)
        self.assertIs(within(book, ("pup", "cat"), ("dog", "pet")), True)
        self.assertIs(within(book, ("pup", "cat"), ("dog", "dog")), False)
        self.assertIs(within(book, ("cat", "pup"), ("dog", "pet")), False)
        self.assertIs(within(book, ("pup", "pup", "stone", "cat"), ("pup", "pet", "stone", "beast")), True)
        self.assertIs(within(book, ("pup", "pup", "stone", "cat"), ("pup", "pet", "stone", "dog")), False)

    def test_of_itself(self):
        book = Kinds(PETS)
        for call in product(book.words(), repeat=2):
            self.assertIs(within(book, call, call), True)

    def test_drawn(self):
        for own in drawn(11, 20, ((4, 1, 0), (4, 2, 0), (3, 3, 0), (2, 4, 0))):
            book = Kinds(own.rows)
            for one, other in product(own.calls(), repeat=2):
                self.assertIs(within(book, one, other), own.within(one, other))


class WhatIsTold(Refused):
    def setUp(self):
        self.board = Board(Kinds(PETS), 2, MEET)

    def test_a_deed(self):
        self.assertEqual(fitting(self.board, ("pup", "cat")), [0, 1, 2, 3])
        self.assertEqual(nearest(self.board, ("pup", "cat")), [3])
        self.assertEqual(told(self.board, ("pup", "cat")), ("deed", 3))
        self.assertEqual(told(self.board, ("beast", "dog")), ("deed", 2))
        self.assertEqual(told(self.board, ("beast", "beast")), ("deed", 0))

    def test_a_clash(self):
        self.assertEqual(fitting(self.board, ("cat", "dog")), [0, 1, 2])
        self.assertEqual(nearest(self.board, ("cat", "dog")), [1, 2])
        self.assertEqual(told(self.board, ("cat", "dog")), ("clash", 1, 2))

    def test_none(self):
        self.assertEqual(fitting(self.board, ("stone", "dog")), [])
        self.assertEqual(nearest(self.board, ("stone", "dog")), [])
        self.assertEqual(told(self.board, ("stone", "dog")), ("none",))

    def test_the_call_itself(self):
        for number, deed in enumerate(MEET):
            self.assertEqual(told(self.board, deed), ("deed", number))
            self.assertIn(number, fitting(self.board, deed))

    def test_the_two_least_of_many_nearest(self):
        book = Kinds([("x", "abcde")] + [(word, ()) for word in "abcde"])
        board = Board(book, 1, [("e",), ("c",), ("a",), ("d",)])
        self.assertEqual(nearest(board, ("x",)), [0, 1, 2, 3])
        self.assertEqual(told(board, ("x",)), ("clash", 0, 1))

    def test_a_nearer_one_told_later_or_ahead(self):
        rows = [("x", "ab"), ("a", "t"), ("b", "t"), ("t", ())]
        for deeds, near in (("tab", [1, 2]), ("atb", [0, 2]), ("abt", [0, 1]), ("tabx", [3]),
                            ("xabt", [0]), ("axtb", [1])):
            board = Board(Kinds(rows), 1, [(word,) for word in deeds])
            self.assertEqual(nearest(board, ("x",)), near)

    def test_without_deeds(self):
        for places in (1, 2, 3, 4):
            board = Board(Kinds(PETS), places, ())
            call = ("pup",) * places
            self.assertEqual(fitting(board, call), [])
            self.assertEqual(nearest(board, call), [])
            self.assertEqual(told(board, call), ("none",))
            self.assertEqual(nexts(board, call), ([], ("none",)))

    def test_drawn(self):
        seen = {}
        for own in drawn(12, 150, SHAPES):
            board = own.board()
            for call in own.calls():
                self.assertEqual(fitting(board, call), own.fitting(call))
                self.assertEqual(nearest(board, call), own.nearest(call))
                self.assertEqual(told(board, call), own.told(call))
                self.check_form(told(board, call), nearest(board, call))
                seen[told(board, call)[0]] = True
        self.assertEqual(set(seen), {"deed", "clash", "none"})

    def check_form(self, answer, near):
        self.assertIsInstance(answer, tuple)
        self.assertIsInstance(near, list)
        self.assertEqual(near, sorted(near))

    def test_sixtyfour_deeds(self):
        rows = ladder_rows(8)
        deeds = list(product("abcdefgh", repeat=2))
        board = Board(Kinds(rows), 2, deeds)
        self.assertEqual(told(board, ("h", "h")), ("deed", 63))
        self.assertEqual(len(fitting(board, ("h", "h"))), 64)
        turned = Board(Kinds(rows), 2, deeds[::-1])
        self.assertEqual(within_steps(20000, lambda: told(turned, ("h", "h"))), ("deed", 0))


class NextDeeds(Refused):
    def test_ordinary(self):
        board = Board(Kinds(PETS), 2, MEET)
        self.assertEqual(nexts(board, ("pup", "cat")), ([3], ("clash", 1, 2)))
        self.assertEqual(nexts(board, ("cat", "dog")), ([], ("clash", 1, 2)))
        self.assertEqual(nexts(board, ("beast", "dog")), ([2, 0], ("none",)))
        self.assertEqual(nexts(board, ("stone", "stone")), ([4], ("none",)))
        self.assertEqual(nexts(board, ("stone", "dog")), ([], ("none",)))

    def test_a_chain(self):
        board = Board(Kinds(PETS), 1, [("thing",), ("pup",), ("pet",), ("dog",)])
        self.assertEqual(nexts(board, ("pup",)), ([1, 3, 2, 0], ("none",)))
        self.assertEqual(nexts(board, ("dog",)), ([3, 2, 0], ("none",)))
        self.assertEqual(nexts(board, ("thing",)), ([0], ("none",)))
        self.assertEqual(nexts(board.more(("beast",)), ("pup",)), ([1, 3], ("clash", 2, 4)))

    def test_drawn(self):
        lengths = {}
        for own in drawn(13, 150, SHAPES):
            board = own.board()
            for call in own.calls():
                answer = nexts(board, call)
                self.assertEqual(answer, own.nexts(call))
                self.assertIsInstance(answer, tuple)
                self.assertIsInstance(answer[0], list)
                lengths[(min(len(answer[0]), 2), answer[1][0])] = True
        self.assertEqual(set(lengths), set(product(range(3), ("none", "clash"))))

    def test_a_long_row(self):
        words = [chr(97 + k) for k in range(24)]
        board = Board(Kinds(ladder_rows()), 1, [(word,) for word in words])
        self.assertEqual(nexts(board, ("x",)), (list(range(23, -1, -1)), ("none",)))


class NoCalls(Refused):
    def test_each_question(self):
        for places in (1, 2, 3, 4):
            board = Board(Kinds(PETS), places, [("dog",) * places])
            wrong = [("dog",) * length for length in range(9) if length != places]
            for place in range(places):
                for word in ("x", "", "Dog", "dog ", "abcdefghi", "a" * 72):
                    wrong.append(("dog",) * place + (word,) + ("dog",) * (places - place - 1))
            for call in wrong:
                for question in QUESTIONS:
                    self.refused(NoCall, question, board, call)

    def test_boards_without_deeds_and_large_ones(self):
        for board in (Board(Kinds(PETS), 2, ()), Board(Kinds(plain_rows(24)), 4, ())):
            for question in QUESTIONS:
                self.refused(NoCall, question, board, ())
                self.refused(NoCall, question, board, ("x", "y"))


class TheAskersOwn(Refused):
    def test_told_lists(self):
        board = Board(Kinds(PETS), 2, MEET)
        call = ("pup", "cat")
        for question in (lambda: fitting(board, call), lambda: nearest(board, call), lambda: nexts(board, call)[0]):
            answer = question()
            kept = list(answer)
            self.assertNotEqual(kept, [])
            answer.append(99)
            answer[0] = 98
            self.assertEqual(question(), kept)

    def test_the_same_each_time(self):
        own = Own(PETS, 2, MEET)
        board = own.board()
        for turn in range(2):
            for call in own.calls():
                self.assertEqual(nexts(board, call), own.nexts(call))
                self.assertEqual(told(board, call), own.told(call))
        self.assertEqual(board.deeds(), MEET)
