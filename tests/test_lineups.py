"""Points 17, 18 and 20, and the first row of point 3."""

from random import Random

from manydeeds.boards import Board
from manydeeds.calls import nexts, told
from manydeeds.errors import NoCall, NoLine
from manydeeds.kinds import Kinds
from manydeeds.lineups import is_lineup, parting, ranked, taken
from own import SHAPES, Own, draw_own, drawn
from refusals import Refused
from samples import PETS, ladder_rows, plain_rows, within_steps

MEET = [("thing", "thing"), ("pet", "thing"), ("thing", "pet"), ("dog", "cat"), ("stone", "stone")]
CALL = ("pup", "cat")
PUP_LINE = ["pup", "dog", "pet", "beast", "thing"]
CAT_LINE = ["cat", "beast", "pet", "thing"]
# Of these each call has few line-ups, so that all of them can be gone through.
SMALL = ((4, 1, 4), (5, 1, 5), (4, 2, 6), (4, 2, 9), (3, 3, 6), (2, 4, 6))


class IsLineup(Refused):
    def setUp(self):
        self.board = Board(Kinds(PETS), 2, MEET)

    def test_lineups(self):
        for order in ([0, 1], [1, 0]):
            self.assertIs(is_lineup(self.board, CALL, (order, [PUP_LINE, CAT_LINE])), True)
            self.assertIs(is_lineup(self.board, CALL, (tuple(order), (tuple(PUP_LINE), tuple(CAT_LINE)))), True)
        self.assertIs(is_lineup(self.board, ("stone", "stone"), ([1, 0], [["stone"], ["stone"]])), True)
        self.assertIs(is_lineup(Board(Kinds(PETS), 1, ()), ("stone",), ([0], [["stone"]])), True)

    def test_wrong_orders(self):
        for order in ([], [0], [1], [0, 0], [1, 1], [0, 1, 0], [0, 1, 2], [1, 2], [-1, 0], [0, -1], [2, 1],
                      [0, 10 ** 59], [0, 1, 0, 1], [0, 1, 2, 3, 4]):
            self.assertIs(is_lineup(self.board, CALL, (order, [PUP_LINE, CAT_LINE])), False)

    def test_wrong_lines(self):
        for lines in ([], [PUP_LINE], [CAT_LINE], [CAT_LINE, PUP_LINE], [PUP_LINE, PUP_LINE], [PUP_LINE, []],
                      [PUP_LINE, CAT_LINE, CAT_LINE], [PUP_LINE, CAT_LINE[1:]], [PUP_LINE, CAT_LINE + ["cat"]],
                      [PUP_LINE[::-1], CAT_LINE], [PUP_LINE, ["cat", "thing", "pet", "beast"]],
                      [["x"] + PUP_LINE[1:], CAT_LINE], [PUP_LINE, CAT_LINE + ["stone"]],
                      [PUP_LINE, CAT_LINE, [], [], []]):
            self.assertIs(is_lineup(self.board, CALL, ([0, 1], lines)), False)

    def test_every_lineup_of_drawn_boards(self):
        random = Random(17)
        for own in drawn(17, 30, SMALL):
            board = own.board()
            call = random.choice(own.calls())
            lineups = own.lineups(call)
            for lineup in lineups:
                self.assertIs(is_lineup(board, call, lineup), True)
            for other in own.calls():
                order, lines = random.choice(own.lineups(other))
                self.assertIs(is_lineup(board, call, (order, lines)), own.is_lineup(call, (order, lines)))


class Ranks(Refused):
    def setUp(self):
        self.board = Board(Kinds(PETS), 2, MEET)

    def test_ordinary(self):
        lineup = ([0, 1], [PUP_LINE, CAT_LINE])
        self.assertEqual(ranked(self.board, CALL, lineup), [3, 1, 2, 0])
        self.assertEqual(taken(self.board, CALL, lineup), 3)
        lineup = ([1, 0], [PUP_LINE, CAT_LINE])
        self.assertEqual(ranked(self.board, CALL, lineup), [3, 2, 1, 0])
        self.assertEqual(taken(self.board, CALL, lineup), 3)

    def test_by_the_line_of_the_place(self):
        board = Board(Kinds(PETS), 2, [("thing", "pet"), ("thing", "beast")])
        for order in ([0, 1], [1, 0]):
            self.assertEqual(ranked(board, ("pup", "cat"), (order, [PUP_LINE, CAT_LINE])), [1, 0])
            turned = ["cat", "pet", "beast", "thing"]
            self.assertEqual(ranked(board, ("pup", "cat"), (order, [PUP_LINE, turned])), [0, 1])

    def test_none_fits(self):
        lineup = ([0, 1], [["stone"], ["stone"]])
        board = Board(Kinds(PETS), 2, MEET[:4])
        self.assertEqual(ranked(board, ("stone", "stone"), lineup), [])
        self.assertIsNone(taken(board, ("stone", "stone"), lineup))

    def test_number_nought_is_taken(self):
        board = Board(Kinds(PETS), 1, [("stone",)])
        self.assertEqual(taken(board, ("stone",), ([0], [["stone"]])), 0)

    def test_every_lineup_of_drawn_boards(self):
        random = Random(18)
        for own in drawn(18, 60, SMALL):
            board = own.board()
            for call in random.sample(own.calls(), min(5, len(own.calls()))):
                for lineup in own.lineups(call):
                    ranks = own.ranked(call, lineup)
                    answer = ranked(board, call, lineup)
                    self.assertIsInstance(answer, list)
                    self.assertEqual(answer, ranks)
                    self.assertEqual(taken(board, call, lineup), ranks[0] if ranks else None)


def common_beginning(rows):
    row = []
    for things in zip(*rows):
        if len(set(things)) > 1:
            break
        row.append(things[0])
    return row


class TheFirstPromise(Refused):
    def test_told_by_all_lineups(self):
        for own in drawn(3, 120, SMALL):
            board = own.board()
            for call in Random(len(own.deeds)).sample(own.calls(), min(6, len(own.calls()))):
                lineups = own.lineups(call)
                ranks = [ranked(board, call, lineup) for lineup in lineups]
                self.check_told(told(board, call), {taken(board, call, lineup) for lineup in lineups})
                self.assertEqual(nexts(board, call)[0], common_beginning(ranks))

    def check_told(self, answer, firsts):
        if answer[0] == "deed":
            self.assertEqual(firsts, {answer[1]})
        elif answer[0] == "none":
            self.assertEqual(firsts, {None})
        else:
            self.assertGreater(len(firsts), 1)

    def test_told_by_drawn_lineups_of_greater_boards(self):
        random = Random(33)
        for turn in range(60):
            own = draw_own(random, *random.choice(((12, 2, 40), (8, 3, 64), (6, 4, 64), (24, 1, 24))))
            board = own.board()
            for call in random.sample(own.calls(), 6):
                row = nexts(board, call)[0]
                for draw in range(4):
                    ranks = ranked(board, call, draw_lineup(random, own, call))
                    self.assertEqual(ranks[:len(row)], row)
                    if told(board, call)[0] == "deed":
                        self.assertEqual(ranks[0], told(board, call)[1])


def draw_lineup(random, own, call):
    order = list(range(own.places))
    random.shuffle(order)
    return (order, [draw_line(random, own, word) for word in call])


def draw_line(random, own, word):
    line, left = [], own.above(word)
    while left:
        lowest = [low for low in left if not any(high != low and (high, low) in own.pairs for high in left)]
        line.append(random.choice(lowest))
        left.remove(line[-1])
    return line


class Parting(Refused):
    def test_ordinary(self):
        board = Board(Kinds(PETS), 2, MEET)
        self.check_parting(Own(PETS, 2, MEET), board, ("pup", "cat"))
        self.check_parting(Own(PETS, 2, MEET), board, ("cat", "dog"))
        self.assertIsNotNone(parting(board, ("pup", "cat")))
        self.assertIsNotNone(parting(board, ("cat", "dog")))

    def test_none(self):
        board = Board(Kinds(PETS), 2, MEET)
        for call in (("beast", "dog"), ("stone", "stone"), ("stone", "dog"), ("thing", "thing")):
            self.assertIsNone(parting(board, call))
        self.assertIsNone(parting(Board(Kinds(PETS), 3, ()), ("pup", "pup", "pup")))

    def test_the_two_of_the_clash_are_taken_by_none(self):
        rows = [("a", ("b",)), ("b", ("c",)), ("c", ("d",)), ("d", ())]
        own = Own(rows, 2, [("b", "c"), ("c", "b"), ("a", "d"), ("d", "a")])
        board = own.board()
        self.assertEqual(told(board, ("a", "a")), ("clash", 0, 1))
        self.check_parting(own, board, ("a", "a"))
        firsts = [taken(board, ("a", "a"), lineup) for lineup in parting(board, ("a", "a"))]
        self.assertEqual(sorted(firsts), [2, 3])

    def test_drawn(self):
        parted = 0
        for own in drawn(20, 200, SHAPES):
            board = own.board()
            for call in own.calls():
                parted += self.check_parting(own, board, call)
        self.assertGreater(parted, 100)

    def test_greater_boards(self):
        random = Random(20)
        behind_a_row = 0
        for turn in range(60):
            own = draw_own(random, *random.choice(((12, 2, 40), (8, 3, 64), (6, 4, 64), (24, 1, 24))), most_ups=5)
            board = own.board()
            for call in random.sample(own.calls(), 12):
                parted = self.check_parting(own, board, call)
                behind_a_row += parted and len(nexts(board, call)[0]) > 0
        self.assertGreater(behind_a_row, 10)

    def check_parting(self, own, board, call):
        row, behind = own.nexts(call)
        answer = parting(board, call)
        if behind == ("none",):
            self.assertIsNone(answer)
            return False
        self.assertIsInstance(answer, tuple)
        self.assertEqual(len(answer), 2)
        ranks = []
        for lineup in answer:
            self.assertIsInstance(lineup, tuple)
            order, lines = lineup
            self.assertTrue(all(isinstance(part, list) for part in [order, lines] + lines))
            self.assertTrue(own.is_lineup(call, lineup))
            self.assertIs(is_lineup(board, call, lineup), True)
            ranks.append(own.ranked(call, lineup))
            self.assertEqual(ranks[-1][:len(row)], row)
        self.assertNotEqual(ranks[0][len(row)], ranks[1][len(row)])
        return True

    def test_sixtyfour_deeds(self):
        rows = ladder_rows(8)[:7] + [("x", tuple("abcdefg")), ("y", tuple("abcdefg"))]
        deeds = [("abcdefg"[k % 7], "gabcdef"[k // 7 % 7], "abcdefg"[k // 49], "a") for k in range(64)]
        board = Board(Kinds(rows), 4, deeds)
        answer = within_steps(60000, lambda: parting(board, ("x", "y", "x", "y")))
        self.assertEqual(answer is None, nexts(board, ("x", "y", "x", "y"))[1] == ("none",))


class WhatIsRefused(Refused):
    def setUp(self):
        self.board = Board(Kinds(PETS), 2, MEET)
        self.lineup = ([0, 1], [PUP_LINE, CAT_LINE])

    def test_no_call(self):
        for call in ((), ("pup",), ("pup", "cat", "cat"), ("pup",) * 8, ("pup", "x"), ("", "cat"), ("Pup", "cat")):
            self.refused(NoCall, parting, self.board, call)
            for question in (is_lineup, ranked, taken):
                for lineup in (self.lineup, ([], []), ([0, 0], [PUP_LINE])):
                    self.refused(NoCall, question, self.board, call, lineup)

    def test_no_lineup(self):
        for lineup in (([], []), ([0], [PUP_LINE, CAT_LINE]), ([0, 0], [PUP_LINE, CAT_LINE]),
                       ([0, 2], [PUP_LINE, CAT_LINE]), ([0, -1], [PUP_LINE, CAT_LINE]), ([0, 1], [PUP_LINE]),
                       ([0, 1], [CAT_LINE, PUP_LINE]), ([0, 1], [PUP_LINE, CAT_LINE[::-1]]),
                       ([0, 1], [PUP_LINE, CAT_LINE + ["x"]]), ([1, 0], [PUP_LINE, CAT_LINE, CAT_LINE])):
            for question in (ranked, taken):
                self.refused(NoLine, question, self.board, CALL, lineup)

    def test_of_boards_without_deeds(self):
        board = Board(Kinds(plain_rows(24)), 4, ())
        self.refused(NoCall, parting, board, ("a",) * 3)
        self.refused(NoLine, taken, board, ("a",) * 4, ([0, 1, 2, 3], [["a"]] * 3))
        self.assertIsNone(taken(board, ("a",) * 4, ([0, 3, 2, 1], [["a"]] * 4)))


class TheAskersOwn(Refused):
    def test_told_lists(self):
        board = Board(Kinds(PETS), 2, MEET)
        kept = parting(board, CALL)
        answer = parting(board, CALL)
        self.assertEqual(answer, kept)
        for which in (0, 1):
            order, lines = answer[which]
            for line in lines:
                line.append("x")
                line[0] = "y"
            lines.append([])
            order.reverse()
        self.assertEqual(parting(board, CALL), kept)
        self.assertEqual(told(board, CALL), ("deed", 3))

    def test_each_list_stands_for_itself(self):
        board = Board(Kinds(PETS), 2, MEET)
        lists = []
        for order, lines in parting(board, ("cat", "cat")):
            lists += [order, lines] + lines
        self.assertEqual(len({id(part) for part in lists}), len(lists))

    def test_lineups_handed_in_stay(self):
        board = Board(Kinds(PETS), 2, MEET)
        order, pup, cat = [1, 0], list(PUP_LINE), list(CAT_LINE)
        for question in (is_lineup, ranked, taken):
            question(board, CALL, (order, [pup, cat]))
            self.assertEqual((order, pup, cat), ([1, 0], PUP_LINE, CAT_LINE))
        ranks = ranked(board, CALL, (order, [pup, cat]))
        ranks.clear()
        self.assertEqual(ranked(board, CALL, (order, [pup, cat])), [3, 2, 1, 0])
