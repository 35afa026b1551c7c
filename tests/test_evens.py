"""Points 21, 22 and 23, the second row of point 3, and point 14 where evenness is asked."""

from itertools import combinations, product

from manydeeds.boards import Board
from manydeeds.calls import told
from manydeeds.errors import TooMany
from manydeeds.evens import clashes, common_calls, even
from manydeeds.kinds import Kinds
from own import SHAPES, Own, drawn
from refusals import Refused
from samples import PETS, ladder_rows, plain_rows

# Of these, both even boards and ones that clash are drawn.
FEW = ((4, 1, 3), (6, 1, 5), (4, 2, 3), (5, 2, 4), (3, 3, 3), (2, 4, 3), (3, 4, 4))


class CommonCalls(Refused):
    def test_none_one_and_several(self):
        book = Kinds(PETS)
        self.assertEqual(common_calls(book, ("pet",), ("beast",)), [("dog",), ("cat",)])
        self.assertEqual(common_calls(book, ("pet", "pup"), ("beast", "thing")), [("dog", "pup"), ("cat", "pup")])
        self.assertEqual(common_calls(book, ("pet", "beast"), ("beast", "pet")), [
            ("dog", "dog"), ("dog", "cat"), ("cat", "dog"), ("cat", "cat")])
        self.assertEqual(common_calls(book, ("pet", "stone"), ("beast", "thing")), [])
        self.assertEqual(common_calls(book, ("stone", "pet"), ("thing", "beast")), [])

    def test_of_a_call_and_one_within_it(self):
        book = Kinds(PETS)
        self.assertEqual(common_calls(book, ("pup", "cat"), ("pup", "cat")), [("pup", "cat")])
        self.assertEqual(common_calls(book, ("pup", "cat", "dog"), ("thing", "cat", "pet")), [("pup", "cat", "dog")])

    def test_as_the_kinds_are_told(self):
        rows = [("c", "xy"), ("y", ()), ("a", "xy"), ("x", ()), ("b", "yx"), ("d", "a")]
        book = Kinds([(word, tuple(ups)) for word, ups in rows])
        self.assertEqual(common_calls(book, ("x", "y", "d"), ("y", "x", "d")), list(product("cab", "cab", "d")))

    def test_drawn(self):
        for own in drawn(21, 60, ((5, 1, 0), (4, 2, 0), (3, 3, 0), (2, 4, 0), (7, 1, 0), (5, 2, 0))):
            book = Kinds(own.rows)
            for one, other in combinations(own.calls()[:60], 2):
                answer = common_calls(book, one, other)
                self.assertIsInstance(answer, list)
                self.assertEqual(answer, own.common_calls(one, other))

    def test_of_books_whose_boards_are_large(self):
        book = Kinds([("l", "ab"), ("m", "ab"), ("a", ()), ("b", ())] + [(word, ()) for word in "cdefghij"])
        self.assertEqual(common_calls(book, ("a",) * 4, ("b",) * 4), list(product("lm", repeat=4)))


class Even(Refused):
    def test_an_even_board(self):
        board = Board(Kinds(PETS), 2, [("pet", "thing"), ("thing", "pet"), ("pet", "pet"), ("stone", "stone")])
        self.assertEqual(even(board), ("even", [(0, 1, ("pet", "pet"), 2)]))

    def test_several_common_calls(self):
        board = Board(Kinds(PETS), 1, [("pet",), ("beast",), ("dog",), ("cat",), ("pup",)])
        self.assertEqual(even(board), ("even", [(0, 1, ("dog",), 2), (0, 1, ("cat",), 3)]))

    def test_a_clash(self):
        board = Board(Kinds(PETS), 2, [("pet", "thing"), ("thing", "pet"), ("dog", "cat")])
        self.assertEqual(even(board), ("clash", ("pet", "pet"), 0, 1))

    def test_the_first_clash(self):
        board = Board(Kinds(PETS), 1, [("beast",), ("dog",), ("pet",)])
        self.assertEqual(even(board), ("clash", ("cat",), 0, 2))
        board = Board(Kinds(PETS), 1, [("beast",), ("cat",), ("pet",)])
        self.assertEqual(even(board), ("clash", ("dog",), 0, 2))

    def test_the_two_need_not_be_the_strangers(self):
        rows = [("x", ("a", "b")), ("a", ("t",)), ("b", ("u",)), ("t", ()), ("u", ())]
        board = Board(Kinds(rows), 1, [("t",), ("u",), ("a",), ("b",)])
        self.assertEqual(even(board), ("clash", ("x",), 2, 3))

    def test_without_strangers(self):
        self.assertEqual(even(Board(Kinds(PETS), 1, ())), ("even", []))
        self.assertEqual(even(Board(Kinds(PETS), 2, ())), ("even", []))
        self.assertEqual(even(Board(Kinds(PETS), 1, [("pet",)])), ("even", []))
        self.assertEqual(even(Board(Kinds(PETS), 1, [("pet",), ("pup",), ("thing",)])), ("even", []))

    def test_strangers_without_a_common_call(self):
        board = Board(Kinds(PETS), 2, [("stone", "pet"), ("dog", "thing"), ("cat", "thing")])
        self.assertEqual(even(board), ("even", []))

    def test_drawn(self):
        seen = {}
        for own in drawn(22, 250, FEW + SHAPES):
            answer = even(own.board())
            self.assertEqual(answer, own.even())
            self.assertIsInstance(answer, tuple)
            if answer[0] == "even":
                self.assertIsInstance(answer[1], list)
                self.assertTrue(all(isinstance(row, tuple) for row in answer[1]))
            seen[(answer[0], answer[0] == "even" and len(answer[1]) > 0)] = True
        self.assertEqual(set(seen), {("clash", False), ("even", False), ("even", True)})

    def test_told_two_by_two_and_call_by_call(self):
        for own in drawn(23, 250, FEW + SHAPES):
            board = own.board()
            answer = even(board)
            clashing = [call for call in board.calls() if told(board, call)[0] == "clash"]
            self.assertEqual(answer[0] == "clash", len(clashing) > 0)
            if answer[0] == "clash":
                self.assertEqual(told(board, answer[1]), ("clash",) + answer[2:])


class Clashes(Refused):
    def test_ordinary(self):
        board = Board(Kinds(PETS), 1, [("beast",), ("pet",)])
        self.assertEqual(clashes(board), [("pup",), ("dog",), ("cat",)])
        self.assertEqual(clashes(board.more(("dog",))), [("cat",)])
        self.assertEqual(clashes(board.more(("dog",)).more(("cat",))), [])

    def test_without_deeds(self):
        for places in (1, 2, 3):
            self.assertEqual(clashes(Board(Kinds(PETS), places, ())), [])

    def test_drawn(self):
        for own in drawn(24, 120, FEW + SHAPES):
            answer = clashes(own.board())
            self.assertIsInstance(answer, list)
            self.assertEqual(answer, own.clashes())

    def test_sixtyfour_deeds(self):
        calls = list(product("abcdefghi", repeat=2))
        own = Own(ladder_rows(9), 2, calls[:80:5] + calls[1:80:5] + calls[2:80:5] + calls[3:80:5])
        self.assertEqual(len(own.deeds), 64)
        self.assertEqual(clashes(own.board()), own.clashes())
        self.assertEqual(even(own.board()), own.even())


class LargeBoards(Refused):
    def test_just_so_many_and_some_more(self):
        for kinds, places in ((24, 1), (22, 2), (8, 3), (4, 4)):
            board = Board(Kinds(plain_rows(kinds)), places, [("a",) * places, ("b",) * places])
            self.assertEqual(even(board), ("even", []))
            self.assertEqual(clashes(board), [])
        for kinds, places in ((23, 2), (9, 3), (5, 4), (24, 4)):
            for deeds in ([], [("a",) * places, ("b",) * places]):
                board = Board(Kinds(plain_rows(kinds)), places, deeds)
                self.refused(TooMany, even, board)
                self.refused(TooMany, clashes, board)


class TheAskersOwn(Refused):
    def test_told_lists(self):
        board = Board(Kinds(PETS), 1, [("pet",), ("beast",), ("dog",), ("cat",)])
        clashing = Board(Kinds(PETS), 1, [("pet",), ("beast",)])
        for question in (lambda: even(board)[1], lambda: clashes(clashing),
                         lambda: common_calls(board.kinds(), ("pet",), ("beast",))):
            answer = question()
            kept = list(answer)
            answer.append("x")
            answer[0] = "y"
            self.assertEqual(question(), kept)
        self.assertEqual(board.deeds(), [("pet",), ("beast",), ("dog",), ("cat",)])
