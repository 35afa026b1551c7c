"""Points 28 and 29, the third row of point 3, and points 2 and 14 where walkers are asked."""

from itertools import product
from random import Random

from manydeeds.boards import Board
from manydeeds.errors import NoCall, TooMany
from manydeeds.kinds import Kinds
from manydeeds.walkers import by_walker, is_walker, parting_rest, walker
from own import SHAPES, Own, drawn
from refusals import Refused
from samples import PETS, plain_rows

ROWS = [("b", ("a",)), ("a", ()), ("c", ())]
DEEDS = [("a", "a"), ("b", "a"), ("a", "c")]
STEPS = [[[0, 1, 2]], [[0, 0, 1], [2, 2, 1], [3, 3, 3]]]
ENDS = [("deed", 1), ("deed", 2), ("deed", 0), ("none",)]


def small():
    return Board(Kinds(ROWS), 2, DEEDS)


def own_walker(own):
    """States by what is told behind beginnings, numbered as these come."""
    groups = []
    for length in range(own.places + 1):
        rows = [own.rests(beginning) for beginning in own.beginnings(length)]
        groups.append([row for k, row in enumerate(rows) if row not in rows[:k]])
    steps = []
    for length in range(own.places):
        states = {}
        for beginning in own.beginnings(length):
            state = [groups[length + 1].index(own.rests(beginning + (word,))) for word in own.words]
            states.setdefault(groups[length].index(own.rests(beginning)), state)
        steps.append([states[number] for number in range(len(groups[length]))])
    return (steps, [rests[0][1] for rests in groups[own.places]])


class Walkers(Refused):
    def test_ordinary(self):
        self.assertEqual(walker(small()), (STEPS, ENDS))

    def test_one_place(self):
        board = Board(Kinds(PETS), 1, [("pet",), ("beast",)])
        self.assertEqual(walker(board), (
            [[[0, 0, 0, 1, 2, 3, 3]]], [("clash", 0, 1), ("deed", 0), ("deed", 1), ("none",)]))

    def test_without_deeds(self):
        for places in (1, 2, 3):
            self.assertEqual(walker(Board(Kinds(PETS), places, ())), ([[[0] * 7]] * places, [("none",)]))

    def test_four_places(self):
        own = Own([("a", ()), ("b", ("a",))], 4, [("a",) * 4, ("b", "a", "b", "a"), ("a", "b", "a", "b")])
        self.assertEqual(walker(own.board()), own_walker(own))

    def test_drawn(self):
        for own in drawn(34, 80, SHAPES):
            board = own.board()
            answer = walker(board)
            self.assertIsInstance(answer, tuple)
            self.assertEqual(answer, own_walker(own))
            self.assertIs(is_walker(board, answer), True)
            for call in own.calls():
                self.assertEqual(by_walker(board.kinds(), answer, call), own.told(call))

    def test_fewest_states(self):
        for own in drawn(35, 60, SHAPES):
            steps, ends = walker(own.board())
            for length in range(own.places):
                unlike = {tuple(own.rests(beginning)) for beginning in own.beginnings(length)}
                self.assertEqual(len(steps[length]), len(unlike))
            self.assertEqual(len(ends), len({own.told(call) for call in own.calls()}))

    def test_unlike_states_are_parted(self):
        for own in drawn(36, 40, SHAPES):
            board = own.board()
            steps, ends = walker(board)
            for length in range(1, own.places + 1):
                firsts = self.first_beginnings(own, steps, length)
                for number, other in product(firsts, repeat=2):
                    rest = parting_rest(board, firsts[number], firsts[other])
                    self.assertEqual(rest is None, number == other)

    def first_beginnings(self, own, steps, length):
        firsts = {}
        for beginning in own.beginnings(length):
            number = 0
            for states, word in zip(steps, beginning):
                number = states[number][own.words.index(word)]
            firsts.setdefault(number, beginning)
        self.assertEqual(list(firsts), list(range(len(firsts))))
        return firsts


class NumbersThatLeadToNothing(Refused):
    def test_by_walker(self):
        book = Kinds(ROWS)
        for wrong in (-1, -4, 4, 10 ** 59, -10 ** 59):
            steps = [[[0, 1, 2]], [[0, 0, 1], [2, wrong, 1], [3, 3, 3]]]
            self.assertIsNone(by_walker(book, (steps, ENDS), ("a", "a")))
            self.assertEqual(by_walker(book, (steps, ENDS), ("a", "b")), ("deed", 0))
        for wrong in (-1, -3, 3, 10 ** 59):
            steps = [[[0, wrong, 2]], STEPS[1]]
            self.assertIsNone(by_walker(book, (steps, ENDS), ("a", "a")))
            self.assertEqual(by_walker(book, (steps, ENDS), ("b", "a")), ("deed", 1))

    def test_no_states_and_no_ends(self):
        book = Kinds(ROWS)
        self.assertIsNone(by_walker(book, (STEPS, []), ("a", "a")))
        self.assertIsNone(by_walker(book, ([STEPS[0], []], ENDS), ("a", "a")))

    def test_is_walker(self):
        for wrong in (-1, -2, -3, -4, 3, 4, 10 ** 59, -10 ** 59):
            for spot in range(3):
                first = [wrong if k == spot else number for k, number in enumerate(STEPS[0][0])]
                self.assertIs(is_walker(small(), ([[first], STEPS[1]], ENDS)), False)
        for wrong in (-1, -2, -3, -4, 4, 5, 10 ** 59):
            for state, spot in product(range(3), repeat=2):
                last = [list(numbers) for numbers in STEPS[1]]
                last[state][spot] = wrong
                self.assertIs(is_walker(small(), ([STEPS[0], last], ENDS)), False)


class WhichWalkersTellABoard(Refused):
    def test_each_number_otherwise(self):
        for place, states in enumerate(STEPS):
            for state, spot, number in product(range(len(states)), range(3), range(4)):
                steps = [[list(numbers) for numbers in step] for step in STEPS]
                same = steps[place][state][spot] == number
                steps[place][state][spot] = number
                self.assertIs(is_walker(small(), (steps, ENDS)), same)

    def test_each_end_otherwise(self):
        for spot in range(4):
            for end in (("none",), ("deed", 0), ("deed", 1), ("deed", 2), ("clash", 0, 1), (), ("deed",)):
                ends = ENDS[:spot] + [end] + ENDS[spot + 1:]
                self.assertIs(is_walker(small(), (STEPS, ends)), end == ENDS[spot])
        self.assertIs(is_walker(small(), (STEPS, ENDS[:3])), False)
        self.assertIs(is_walker(small(), (STEPS, [])), False)

    def test_states_and_ends_that_no_call_comes_to(self):
        for state in ([], [9], [-1, -1, -1], [0, 0, 0], [7] * 12):
            self.assertIs(is_walker(small(), ([STEPS[0] + [state], STEPS[1]], ENDS)), True)
            self.assertIs(is_walker(small(), ([STEPS[0], STEPS[1] + [state]], ENDS)), True)
        self.assertIs(is_walker(small(), (STEPS, ENDS + [("deed", 9), ("none",)])), True)

    def test_more_states_than_are_needed(self):
        steps = [[[3, 1, 2]], [[0, 0, 1], [2, 2, 1], [3, 3, 4], [0, 0, 1]]]
        self.assertIs(is_walker(small(), (steps, ENDS + [("none",)])), True)

    def test_other_numbers_of_steps(self):
        for steps in ([], [[]], STEPS[:1], STEPS[1:], STEPS + [[]], STEPS + STEPS, [[], []], [[], STEPS[1]],
                      [STEPS[0], []], STEPS + [[[0, 0, 0]] * 4]):
            self.assertIs(is_walker(small(), (steps, ENDS)), False)
        flat = Board(Kinds(ROWS), 1, ())
        self.assertIs(is_walker(flat, ([[[0, 0, 0]]], [("none",)])), True)
        for steps in ([], [[]], [[[0, 0, 0]]] * 2, [[[0, 0, 0]], []]):
            self.assertIs(is_walker(flat, (steps, [("none",)])), False)

    def test_states_of_other_lengths(self):
        for place, states in enumerate(STEPS):
            for state in range(len(states)):
                for numbers in ([], states[state][:2], states[state] + [0], states[state] * 2):
                    steps = [list(step) for step in STEPS]
                    steps[place][state] = numbers
                    self.assertIs(is_walker(small(), (steps, ENDS)), False)

    def test_drawn(self):
        random = Random(37)
        for own in drawn(37, 60, SHAPES):
            board = own.board()
            steps, ends = walker(board)
            self.assertIs(is_walker(board, (steps, ends)), True)
            states = steps[random.randrange(own.places)]
            state = random.choice(states)
            state[random.randrange(len(own.words))] = random.choice((-1, len(own.words) ** own.places))
            self.assertIs(is_walker(board, (steps, ends)), False)

    def test_lists_and_tuples(self):
        steps = tuple(tuple(tuple(state) for state in states) for states in STEPS)
        self.assertIs(is_walker(small(), (steps, tuple(ENDS))), True)
        self.assertEqual(by_walker(Kinds(ROWS), (steps, tuple(ENDS)), ("a", "c")), ("deed", 2))


class PartingRests(Refused):
    def test_ordinary(self):
        self.assertEqual(parting_rest(small(), ("b",), ("a",)), ("b",))
        self.assertEqual(parting_rest(small(), ("a",), ("c",)), ("b",))
        self.assertEqual(parting_rest(small().more(("b", "b")), ("b",), ("a",)), ("b",))
        self.assertEqual(parting_rest(Board(Kinds(ROWS), 2, [("b", "c")]), ("a",), ("b",)), ("c",))

    def test_none_is_no_empty_rest(self):
        self.assertIsNone(parting_rest(small(), (), ()))
        self.assertIsNone(parting_rest(small(), ("a",), ("a",)))
        self.assertIsNone(parting_rest(small(), ("b", "b"), ("b", "a")))
        self.assertEqual(parting_rest(small(), ("b", "b"), ("b", "c")), ())
        self.assertIsNone(parting_rest(Board(Kinds(ROWS), 3, ()), ("a",), ("c",)))

    def test_drawn(self):
        random = Random(38)
        for own in drawn(38, 80, SHAPES):
            board = own.board()
            for length in range(own.places + 1):
                pairs = list(product(own.beginnings(length), repeat=2))
                for one, other in random.sample(pairs, min(12, len(pairs))):
                    told = zip(own.rests(one), own.rests(other))
                    parted = [mine[0] for mine, theirs in told if mine != theirs]
                    self.assertEqual(parting_rest(board, one, other), parted[0] if parted else None)


class WhatIsRefused(Refused):
    def test_no_beginnings(self):
        board = Board(Kinds(PETS), 2, ())
        for one, other in (((), ("dog",)), (("dog",), ()), (("dog",), ("dog", "dog")), (("dog", "dog"), ("dog",)),
                           (("x",), ("dog",)), (("dog",), ("x",)), (("dog", "x"), ("dog", "dog")),
                           (("dog", "dog"), ("", "dog")), (("dog",) * 3, ("dog",) * 3), (("dog",) * 8, ("dog",) * 8),
                           (("dog",) * 3, ("dog",) * 2), (("dog",) * 2, ("dog",) * 3)):
            self.refused(NoCall, parting_rest, board, one, other)

    def test_no_call_then_large_boards(self):
        large = Board(Kinds(plain_rows(9)), 3, [("a",) * 3])
        for one, other in (((), ("a",)), (("x",), ("a",)), (("a",), ("x",)), (("a",) * 4, ("a",) * 4)):
            self.refused(NoCall, parting_rest, large, one, other)
        for length in range(4):
            self.refused(TooMany, parting_rest, large, ("a",) * length, ("b",) * length)
            self.refused(TooMany, parting_rest, large, ("a",) * length, ("a",) * length)

    def test_just_so_many_calls_and_some_more(self):
        for kinds, places in ((24, 1), (22, 2), (8, 3), (4, 4)):
            board = Board(Kinds(plain_rows(kinds)), places, ())
            self.assertEqual(walker(board), ([[[0] * kinds]] * places, [("none",)]))
            self.assertIs(is_walker(board, walker(board)), True)
            self.assertIsNone(parting_rest(board, ("a",), ("b",)))
        for kinds, places in ((23, 2), (9, 3), (5, 4), (24, 4)):
            board = Board(Kinds(plain_rows(kinds)), places, ())
            self.refused(TooMany, walker, board)
            self.refused(TooMany, is_walker, board, ([[[0] * kinds]] * places, [("none",)]))
            self.refused(TooMany, is_walker, board, ([], []))
            self.refused(TooMany, parting_rest, board, ("a",), ("b",))

    def test_no_call(self):
        for call in ((), ("a",), ("a", "a", "a"), ("a", "x"), ("", "a"), ("a",) * 8):
            self.refused(NoCall, by_walker, Kinds(ROWS), (STEPS, ENDS), call)


class TheAskersOwn(Refused):
    def test_told_lists(self):
        board = small()
        steps, ends = walker(board)
        steps[1][0][0] = 99
        steps[1][1].append(3)
        steps[0].append([])
        steps.append([])
        ends[0] = ("none",)
        ends.append(("none",))
        self.assertEqual(walker(board), (STEPS, ENDS))
        self.assertEqual(board.deeds(), DEEDS)

    def test_each_list_stands_for_itself(self):
        steps, ends = walker(Board(Kinds(ROWS), 3, ()))
        steps[0][0][0] = 99
        steps[1].append([])
        self.assertEqual(steps[2], [[0, 0, 0]])
        self.assertEqual(steps[1][0], [0, 0, 0])

    def test_walkers_handed_in_stay(self):
        steps = [[list(state) for state in states] for states in STEPS]
        ends = list(ENDS)
        is_walker(small(), (steps, ends))
        by_walker(Kinds(ROWS), (steps, ends), ("a", "c"))
        self.assertEqual((steps, ends), (STEPS, ENDS))
