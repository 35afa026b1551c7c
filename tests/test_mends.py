"""Point 24, and what points 2, 3 and 14 say of mends."""

from itertools import chain, combinations, product

from manydeeds.boards import Board
from manydeeds.errors import TooMany
from manydeeds.evens import even
from manydeeds.kinds import Kinds
from manydeeds.mends import mend, mended
from own import SHAPES, Own, drawn
from refusals import Refused
from samples import ALPHABET, PETS, plain_rows


def half_mended(clashing, deeds):
    """A board of so many deeds, just so many calls of which clash, one by one."""
    rows = [("x", ("y", "z")), ("y", ()), ("z", ())] + plain_rows(13)
    places = [(word, turned) for word in ALPHABET[:13] for turned in (False, True)]
    calls = [("x", word) if turned else (word, "x") for word, turned in places[:clashing]]
    stands = [tuple(high if word == "x" else word for word in call) for call in calls for high in "yz"]
    spare = list(product(ALPHABET[:13], repeat=2))
    return rows, calls, stands + spare[:deeds - len(stands)]


class Mends(Refused):
    def test_ordinary(self):
        board = Board(Kinds(PETS), 2, [("pet", "thing"), ("thing", "pet")])
        self.assertEqual(mend(board), [(("pet", "pet"), 0, 1)])
        self.assertEqual(mended(board).deeds(), [("pet", "thing"), ("thing", "pet"), ("pet", "pet")])

    def test_several(self):
        board = Board(Kinds(PETS), 1, [("beast",), ("pet",)])
        self.assertEqual(mend(board), [(("dog",), 0, 1), (("cat",), 0, 1)])
        self.assertEqual(mended(board).deeds(), [("beast",), ("pet",), ("dog",), ("cat",)])

    def test_an_even_board(self):
        for deeds in ([], [("pet",)], [("pet",), ("beast",), ("cat",), ("dog",)]):
            board = Board(Kinds(PETS), 1, deeds)
            self.assertEqual(mend(board), [])
            self.assertEqual(mended(board).deeds(), deeds)
            self.assertEqual(mended(board).kinds().rows(), PETS)

    def test_a_deed_of_the_mend_clashes_in_its_turn(self):
        rows = [("e", ("c", "d")), ("c", ("a", "b")), ("d", ("a", "b")), ("a", ()), ("b", ())]
        board = Board(Kinds(rows), 1, [("a",), ("b",)])
        self.assertEqual(mend(board), [(("c",), 0, 1), (("d",), 0, 1), (("e",), 2, 3)])

    def test_a_clash_that_the_mend_brings_forth(self):
        # At e deed 2 is nearest, until the mend puts a deed on c, which is no nearer and no farther.
        rows = [("e", ("c", "d")), ("c", ("a", "b")), ("d", ("a", "b")), ("a", ()), ("b", ())]
        board = Board(Kinds(rows), 1, [("a",), ("b",), ("d",)])
        self.assertEqual(even(board), ("clash", ("c",), 0, 1))
        self.assertEqual(mend(board), [(("c",), 0, 1), (("e",), 2, 3)])

    def test_the_first_of_the_outermost(self):
        rows = [("n", ("m", "k")), ("k", ("x", "y")), ("m", ("x", "y")), ("x", ()), ("y", ())]
        for told in (rows, rows[::-1], rows[2:] + rows[:2]):
            own = Own(told, 1, [("x",), ("y",)])
            self.assertEqual(mend(own.board()), own.mend()[0])
        self.assertEqual(mend(Own(rows, 1, [("x",), ("y",)]).board())[0], (("k",), 0, 1))
        self.assertEqual(mend(Own(rows[::-1], 1, [("x",), ("y",)]).board())[0], (("m",), 0, 1))

    def test_drawn(self):
        lengths = {}
        few = ((9, 1, 3), (9, 1, 5), (5, 2, 3), (6, 2, 5), (3, 3, 4), (4, 3, 3), (2, 4, 5))
        for own in drawn(25, 150, few + SHAPES):
            board = own.board()
            triples, greater = own.mend()
            answer = mend(board)
            self.assertIsInstance(answer, list)
            self.assertEqual(answer, triples)
            self.assertEqual(mended(board).deeds(), greater.deeds)
            lengths[min(len(triples), 3)] = True
        self.assertEqual(set(lengths), {0, 1, 2, 3})


class ThePromise(Refused):
    def test_mended_boards_are_even_and_have_the_deeds_first(self):
        for own in drawn(26, 150, SHAPES + ((6, 2, 5), (14, 1, 8))):
            board = own.board()
            greater = mended(board)
            self.assertEqual(even(greater)[0], "even")
            self.assertEqual(greater.deeds()[:len(own.deeds)], own.deeds)
            self.assertEqual(greater.deeds()[len(own.deeds):], [call for call, one, other in mend(board)])
            self.assertEqual((greater.places(), greater.kinds().rows()), (own.places, own.rows))

    def test_every_even_board_with_the_deeds_has_the_mend(self):
        mended_ones = 0
        for own in drawn(27, 80, ((5, 1, 3), (6, 1, 3), (3, 2, 4), (2, 3, 3))):
            needed = {call for call, one, other in mend(own.board())}
            mended_ones += len(needed) > 0
            spare = [call for call in own.calls() if call not in own.deeds]
            choices = chain.from_iterable(combinations(spare, size) for size in range(len(needed) + 2))
            for choice in choices:
                board = Board(Kinds(own.rows), own.places, own.deeds + list(choice))
                if even(board)[0] == "even":
                    self.assertLessEqual(needed, set(choice))
        self.assertGreater(mended_ones, 5)


class WhatIsRefused(Refused):
    def test_the_sixtyfourth_and_the_sixtyfifth_deed(self):
        for clashing, deeds in ((1, 63), (1, 64), (2, 62), (2, 63), (21, 43), (21, 44), (0, 64), (26, 52)):
            rows, calls, stands = half_mended(clashing, deeds)
            board = Board(Kinds(rows), 2, stands)
            self.assertEqual(len(board.deeds()), deeds)
            if clashing + deeds > 64:
                self.refused(TooMany, mend, board)
                self.refused(TooMany, mended, board)
            else:
                self.assertEqual(sorted(call for call, one, other in mend(board)), sorted(calls))
                self.assertEqual(len(mended(board).deeds()), clashing + deeds)

    def test_large_boards(self):
        for kinds, places in ((24, 1), (22, 2), (8, 3), (4, 4)):
            board = Board(Kinds(plain_rows(kinds)), places, [("a",) * places])
            self.assertEqual(mend(board), [])
            self.assertEqual(mended(board).deeds(), [("a",) * places])
        for kinds, places in ((23, 2), (9, 3), (5, 4), (24, 4)):
            for deeds in ([], [("a",) * places]):
                board = Board(Kinds(plain_rows(kinds)), places, deeds)
                self.refused(TooMany, mend, board)
                self.refused(TooMany, mended, board)

    def test_what_is_refused_leaves_the_board(self):
        rows, calls, stands = half_mended(2, 63)
        board = Board(Kinds(rows), 2, stands)
        for turn in range(2):
            self.refused(TooMany, mended, board)
            self.assertEqual(board.deeds(), stands)


class TheAskersOwn(Refused):
    def test_told_lists_and_boards(self):
        board = Board(Kinds(PETS), 1, [("beast",), ("pet",)])
        answer = mend(board)
        kept = list(answer)
        answer.append("x")
        answer[0] = "y"
        greater = mended(board)
        greater.deeds().clear()
        self.assertEqual(mend(board), kept)
        self.assertEqual(board.deeds(), [("beast",), ("pet",)])
        self.assertEqual(mended(board).deeds(), greater.deeds())
        self.assertEqual(even(board), ("clash", ("dog",), 0, 1))
