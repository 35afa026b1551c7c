"""Point 30, and what points 2, 3 and 14 say of shares."""

from itertools import product
from math import prod
from random import Random

from manydeeds.boards import Board
from manydeeds.errors import NoWeights, TooMany
from manydeeds.kinds import Kinds
from manydeeds.shares import shares
from manydeeds.walkers import walker
from own import SHAPES, Own, drawn
from refusals import Refused
from samples import ALPHABET, PETS, plain_rows


def own_shares(own, weights):
    """Call by call, each sum of its own."""
    weight_of = dict(zip(own.words, weights))
    order = []
    for call in own.calls():
        if own.told(call) not in order:
            order.append(own.told(call))
    return [(answer, sum(prod(weight_of[word] for word in call) for call in own.calls() if own.told(call) == answer))
            for answer in order]


class Shares(Refused):
    def test_ordinary(self):
        # pup, dog, cat, pet, beast, thing, stone
        board = Board(Kinds(PETS), 1, [("thing",), ("beast",), ("pet",)])
        self.assertEqual(shares(board, [1, 2, 3, 4, 5, 6, 7]), [
            (("clash", 1, 2), 6), (("deed", 2), 4), (("deed", 1), 5), (("deed", 0), 6), (("none",), 7)])

    def test_two_places(self):
        board = Board(Kinds([("low", ("high",)), ("high", ())]), 2, [("high", "low"), ("low", "high")])
        self.assertEqual(shares(board, (3, 5)), [
            (("clash", 0, 1), 9), (("deed", 1), 15), (("deed", 0), 15), (("none",), 25)])

    def test_without_deeds(self):
        self.assertEqual(shares(Board(Kinds(plain_rows(3)), 2, ()), [1, 2, 3]), [(("none",), 36)])
        self.assertEqual(shares(Board(Kinds(plain_rows(1)), 4, ()), [7]), [(("none",), 7 ** 4)])

    def test_sums_of_nought(self):
        board = Board(Kinds(PETS), 1, [("thing",), ("pet",)])
        self.assertEqual(shares(board, [0] * 7), [(("deed", 1), 0), (("deed", 0), 0), (("none",), 0)])
        self.assertEqual(shares(board, [1, 1, 1, 1, 1, 1, 0]), [(("deed", 1), 4), (("deed", 0), 2), (("none",), 0)])
        self.assertEqual(shares(board, [0, 0, 0, 0, 1, 1, 1]), [(("deed", 1), 0), (("deed", 0), 2), (("none",), 1)])

    def test_very_large_weights(self):
        most = 10 ** 60 - 1
        board = Board(Kinds(plain_rows(2)), 4, [("a",) * 4])
        self.assertEqual(shares(board, [most, most - 1]), [
            (("deed", 0), most ** 4), (("none",), (2 * most - 1) ** 4 - most ** 4)])

    def test_drawn(self):
        random = Random(301)
        for own in drawn(30, 120, SHAPES):
            most = random.choice((1, 3, 100, 10 ** 59))
            weights = [random.randint(0, most) for word in own.words]
            expected = own_shares(own, weights)
            for handed in (weights, tuple(weights)):
                answer = shares(own.board(), handed)
                self.assertIsInstance(answer, list)
                self.assertEqual(answer, expected)
                self.assertTrue(all(isinstance(pair, tuple) for pair in answer))

    def test_boards_of_many_calls(self):
        deeds = [("a", "b"), ("b", "a"), ("v", "v")]
        own = Own(plain_rows(22), 2, deeds)
        self.assertEqual(shares(own.board(), [1] * 22), [(("none",), 481), (("deed", 0), 1), (("deed", 1), 1),
                                                         (("deed", 2), 1)])

    def test_they_are_the_ends_of_the_walker(self):
        for own in drawn(302, 30, SHAPES):
            answers = [answer for answer, weight in shares(own.board(), [1] * len(own.words))]
            self.assertEqual(answers, walker(own.board())[1])


class WhatIsRefused(Refused):
    def test_weights(self):
        board = Board(Kinds(PETS), 1, [("thing",)])
        for weights in ([], [1] * 6, [1] * 8, [1] * 25, [1, 1, 1, 1, 1, 1, -1], [-1, 1, 1, 1, 1, 1, 1], [-10 ** 59] * 7,
                        [0, 0, 0, -1, 0, 0, 0], [-1] * 6, [-1] * 8):
            self.refused(NoWeights, shares, board, weights)
            self.refused(NoWeights, shares, board, tuple(weights))
        self.assertEqual(len(shares(board, [0] * 7)), 2)

    def test_large_boards(self):
        for kinds, places in ((24, 1), (22, 2), (8, 3), (4, 4)):
            board = Board(Kinds(plain_rows(kinds)), places, [])
            self.assertEqual(shares(board, [1] * kinds), [(("none",), kinds ** places)])
        for kinds, places in ((23, 2), (9, 3), (5, 4), (24, 4)):
            board = Board(Kinds(plain_rows(kinds)), places, [("a",) * places])
            self.refused(TooMany, shares, board, [1] * kinds)
            self.refused(TooMany, shares, board, [0] * kinds)

    def test_weights_go_ahead_of_large_boards(self):
        board = Board(Kinds(plain_rows(9)), 3, [])
        for weights in ([1] * 8, [1] * 10, [], [1] * 8 + [-1]):
            self.refused(NoWeights, shares, board, weights)


class TheAskersOwn(Refused):
    def test_what_is_told_and_handed_in(self):
        board = Board(Kinds(PETS), 1, [("thing",), ("pet",)])
        weights = [1, 2, 3, 4, 5, 6, 7]
        answer = shares(board, weights)
        kept = list(answer)
        self.assertEqual(weights, [1, 2, 3, 4, 5, 6, 7])
        answer.clear()
        weights[0] = 100
        self.assertEqual(shares(board, [1, 2, 3, 4, 5, 6, 7]), kept)
        self.assertEqual(shares(board, (1, 2, 3, 4, 5, 6, 7)), kept)

    def test_the_same_each_time(self):
        for own in drawn(303, 20, SHAPES):
            board = own.board()
            weights = list(range(len(own.words)))
            self.assertEqual(shares(board, weights), shares(board, weights))

    def test_all_calls_weigh_the_power_of_the_sum(self):
        for kinds, places in product((1, 3, 4), (1, 2, 3, 4)):
            weights = [k + 2 for k, word in enumerate(ALPHABET[:kinds])]
            board = Board(Kinds(plain_rows(kinds)), places, [("a",) * places])
            self.assertEqual(sum(weight for answer, weight in shares(board, weights)), sum(weights) ** places)
