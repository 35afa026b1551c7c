"""Points 25, 26 and 27, the third row of point 3, and points 2 and 14 where tables are asked."""

from itertools import product
from random import Random

from manydeeds.boards import Board
from manydeeds.calls import told
from manydeeds.errors import NoCall, NoKind, NoPlace, TooMany
from manydeeds.kinds import Kinds
from manydeeds.tables import by_table, classes, is_table, parting_call, table
from own import SHAPES, drawn
from refusals import Refused
from samples import PETS, plain_rows

MEET = [("thing", "thing"), ("pet", "thing"), ("dog", "cat")]


def meet():
    return Board(Kinds(PETS), 2, MEET)


class Classes(Refused):
    def test_ordinary(self):
        self.assertEqual(classes(meet(), 0), [0, 0, 1, 1, 2, 2, 3])
        self.assertEqual(classes(meet(), 1), [0, 0, 1, 0, 0, 0, 2])

    def test_one_class(self):
        for places in (1, 2, 3):
            board = Board(Kinds(PETS), places, ())
            for place in range(places):
                self.assertEqual(classes(board, place), [0] * 7)
        board = Board(Kinds([("b", ("a",)), ("a", ())]), 2, [("a", "b")])
        self.assertEqual(classes(board, 0), [0, 0])
        self.assertEqual(classes(board, 1), [0, 1])

    def test_each_kind_by_itself(self):
        board = Board(Kinds(PETS), 1, [(word,) for word, ups in PETS])
        self.assertEqual(classes(board, 0), [0, 1, 2, 3, 4, 5, 6])

    def test_numbered_by_their_first_kinds(self):
        board = Board(Kinds(plain_rows(5)), 1, [("d",), ("b",)])
        self.assertEqual(classes(board, 0), [0, 1, 0, 2, 0])

    def test_drawn(self):
        for own in drawn(28, 100, SHAPES):
            board = own.board()
            for place in range(own.places):
                answer = classes(board, place)
                rows = [own.row_at(place, word) for word in own.words]
                firsts = [row for k, row in enumerate(rows) if row not in rows[:k]]
                self.assertIsInstance(answer, list)
                self.assertEqual(answer, [firsts.index(row) for row in rows])


class Tables(Refused):
    def test_ordinary(self):
        maps, cells = table(meet())
        self.assertEqual(maps, [[0, 0, 1, 1, 2, 2, 3], [0, 0, 1, 0, 0, 0, 2]])
        self.assertEqual(cells, {
            (0, 0): ("deed", 1), (0, 1): ("deed", 2), (0, 2): ("none",),
            (1, 0): ("deed", 1), (1, 1): ("deed", 1), (1, 2): ("none",),
            (2, 0): ("deed", 0), (2, 1): ("deed", 0), (2, 2): ("none",),
            (3, 0): ("none",), (3, 1): ("none",), (3, 2): ("none",)})

    def test_without_deeds(self):
        for places in (1, 2, 3):
            board = Board(Kinds(PETS), places, ())
            self.assertEqual(table(board), ([[0] * 7] * places, {(0,) * places: ("none",)}))

    def test_drawn(self):
        for own in drawn(29, 100, SHAPES):
            board = own.board()
            answer = table(board)
            maps, cells = answer
            self.assertIsInstance(answer, tuple)
            self.assertEqual(maps, [classes(board, place) for place in range(own.places)])
            self.assertEqual(set(cells), set(product(*maps)))
            self.assertIs(is_table(board, answer), True)
            for call in own.calls():
                self.assertEqual(by_table(board.kinds(), answer, call), own.told(call))

    def test_a_lacking_cell(self):
        maps, cells = table(meet())
        cells.pop((2, 1))
        for call in product(("beast", "thing"), ("cat",)):
            self.assertIsNone(by_table(meet().kinds(), (maps, cells), call))
        self.assertEqual(by_table(meet().kinds(), (maps, cells), ("pup", "cat")), ("deed", 2))

    def test_other_numbers(self):
        book = Kinds([("b", ()), ("a", ())])
        answer = ([[-3, 10 ** 59]], {(-3,): ("deed", 5), (10 ** 59,): ("none",)})
        self.assertEqual(by_table(book, answer, ("b",)), ("deed", 5))
        self.assertEqual(by_table(book, answer, ("a",)), ("none",))


class WhichTablesTellABoard(Refused):
    def setUp(self):
        self.board = meet()
        self.maps, self.cells = table(self.board)

    def test_with_other_numbers(self):
        maps = [[-7 * number + 10 ** 40 for number in numbers] for numbers in self.maps]
        cells = {tuple(-7 * number + 10 ** 40 for number in key): answer for key, answer in self.cells.items()}
        self.assertIs(is_table(self.board, (maps, cells)), True)
        self.assertIs(is_table(self.board, (maps, self.cells)), False)

    def test_with_a_number_for_each_kind(self):
        calls = self.board.calls()
        words = self.board.kinds().words()
        cells = {tuple(words.index(word) for word in call): told(self.board, call) for call in calls}
        self.assertIs(is_table(self.board, ([list(range(7))] * 2, cells)), True)

    def test_cells_that_no_call_comes_to(self):
        for key in ((4, 0), (0, 3), (-1, 0), (), (0,), (0, 0, 0), (10 ** 59, 1)):
            cells = dict(self.cells)
            cells[key] = ("deed", 77)
            self.assertIs(is_table(self.board, (self.maps, cells)), True)

    def test_each_cell_lacking_or_otherwise(self):
        for key, answer in self.cells.items():
            cells = dict(self.cells)
            for other in (("none",), ("deed", 0), ("deed", 1), ("clash", 0, 1), (), ("deed",), ("deed", 1, 2)):
                cells[key] = other
                self.assertIs(is_table(self.board, (self.maps, cells)), other == answer)
            cells.pop(key)
            self.assertIs(is_table(self.board, (self.maps, cells)), False)
        self.assertIs(is_table(self.board, (self.maps, {})), False)

    def test_other_lengths(self):
        first, second = self.maps
        for maps in ([], [first], [second], [first, second, first], [first, second, []], [[], []], [first, []],
                     [first, second[:-1]], [first[1:], second], [first + [0], second], [first, second + [0]]):
            self.assertIs(is_table(self.board, (maps, self.cells)), False)
        flat = Board(Kinds(PETS), 1, ())
        self.assertIs(is_table(flat, ([[0] * 7], {(0,): ("none",)})), True)
        for maps in ([], [[]], [[0] * 6], [[0] * 8], [[0] * 7, []], [[0] * 7] * 2):
            self.assertIs(is_table(flat, (maps, {(0,): ("none",), (): ("none",), (0, 0): ("none",)})), False)

    def test_maps_that_tell_too_little(self):
        for place in (0, 1):
            for one, other in product(range(7), repeat=2):
                if self.maps[place][one] != self.maps[place][other]:
                    self.check_alike(self.board, self.maps, place, one, other)

    def check_alike(self, board, maps, place, one, other):
        """Whatever the cells, two kinds of unlike classes can't have one number."""
        words = board.kinds().words()
        maps = [list(numbers) for numbers in maps]
        number = maps[place][other]
        maps[place] = [number if k == one else held for k, held in enumerate(maps[place])]
        for calls in (board.calls(), board.calls()[::-1]):
            cells = {tuple(maps[k][words.index(word)] for k, word in enumerate(call)): told(board, call)
                     for call in calls}
            self.assertIs(is_table(board, (maps, cells)), False)

    def test_drawn(self):
        random = Random(30)
        for own in drawn(30, 60, SHAPES):
            board = own.board()
            maps, cells = table(board)
            place = random.randrange(own.places)
            one, other = random.choices(range(len(own.words)), k=2)
            if maps[place][one] != maps[place][other]:
                self.check_alike(board, maps, place, one, other)
            key = tuple(numbers[0] for numbers in maps)
            self.assertEqual(cells[key], own.told(own.calls()[0]))
            self.assertIs(is_table(board, (maps, {**cells, key: ("deed", 99)})), False)

    def test_lists_and_tuples(self):
        maps = tuple(tuple(numbers) for numbers in self.maps)
        self.assertIs(is_table(self.board, (maps, self.cells)), True)
        self.assertEqual(by_table(self.board.kinds(), (maps, self.cells), ("pup", "cat")), ("deed", 2))


class PartingCalls(Refused):
    def test_ordinary(self):
        self.assertEqual(parting_call(meet(), 0, "dog", "cat"), ("dog", "cat"))
        self.assertEqual(parting_call(meet(), 0, "cat", "dog"), ("cat", "cat"))
        self.assertEqual(parting_call(meet(), 0, "beast", "cat"), ("beast", "pup"))
        self.assertEqual(parting_call(meet(), 1, "stone", "cat"), ("pup", "stone"))
        self.assertEqual(parting_call(meet(), 1, "cat", "pup"), ("pup", "cat"))

    def test_of_one_class(self):
        self.assertIsNone(parting_call(meet(), 0, "pup", "dog"))
        self.assertIsNone(parting_call(meet(), 1, "thing", "pup"))
        self.assertIsNone(parting_call(meet(), 0, "stone", "stone"))
        self.assertIsNone(parting_call(Board(Kinds(PETS), 1, ()), 0, "stone", "pup"))

    def test_drawn(self):
        for own in drawn(31, 60, SHAPES):
            board = own.board()
            for place in range(own.places):
                numbers = dict(zip(own.words, classes(board, place)))
                for one, other in product(own.words, repeat=2):
                    answer = parting_call(board, place, one, other)
                    self.assertEqual(answer, self.own_answer(own, place, one, other))
                    self.assertEqual(answer is None, numbers[one] == numbers[other])

    def own_answer(self, own, place, one, other):
        for call in own.calls():
            if call[place] == one:
                turned = tuple(other if k == place else word for k, word in enumerate(call))
                if own.told(call) != own.told(turned):
                    return call
        return None


class WhatIsRefused(Refused):
    def setUp(self):
        self.large = Board(Kinds(plain_rows(9)), 3, [("a",) * 3])

    def test_places(self):
        for place in (-1, -2, 2, 3, 10 ** 59, -10 ** 59):
            self.refused(NoPlace, classes, meet(), place)
            self.refused(NoPlace, parting_call, meet(), place, "dog", "cat")
        for place in (-1, -3, 3, 4):
            self.refused(NoPlace, classes, self.large, place)

    def test_kinds(self):
        for word in ("x", "", "Dog", "abcdefghi"):
            self.refused_word(NoKind, word, parting_call, meet(), 0, word, "dog")
            self.refused_word(NoKind, word, parting_call, meet(), 0, "dog", word)
            self.refused_word(NoKind, word, parting_call, meet(), 1, word, word)
            self.refused_word(NoKind, word, parting_call, meet(), 1, word, "y")
            self.refused_word(NoKind, "y", parting_call, meet(), 1, "y", word)

    def test_places_then_kinds_then_large_boards(self):
        for place in (-1, 3):
            self.refused(NoPlace, parting_call, self.large, place, "x", "y")
            self.refused(NoPlace, parting_call, meet(), place, "x", "y")
            self.refused(NoPlace, parting_call, self.large, place, "a", "b")
        self.refused_word(NoKind, "x", parting_call, self.large, 0, "x", "y")
        self.refused_word(NoKind, "y", parting_call, self.large, 2, "a", "y")
        for place in (0, 1, 2):
            self.refused(TooMany, parting_call, self.large, place, "a", "b")
            self.refused(TooMany, parting_call, self.large, place, "a", "a")
            self.refused(TooMany, classes, self.large, place)

    def test_just_so_many_calls_and_some_more(self):
        for kinds, places in ((24, 1), (22, 2), (8, 3), (4, 4)):
            board = Board(Kinds(plain_rows(kinds)), places, ())
            self.assertEqual(classes(board, places - 1), [0] * kinds)
            self.assertIsNone(parting_call(board, 0, "a", "b"))
            self.assertIs(is_table(board, table(board)), True)
        for kinds, places in ((23, 2), (9, 3), (5, 4), (24, 4)):
            board = Board(Kinds(plain_rows(kinds)), places, ())
            self.refused(TooMany, table, board)
            self.refused(TooMany, classes, board, 0)
            self.refused(TooMany, parting_call, board, 0, "a", "b")
            self.refused(TooMany, is_table, board, ([[0] * kinds] * places, {(0,) * places: ("none",)}))
            self.refused(TooMany, is_table, board, ([], {}))

    def test_no_call(self):
        answer = table(meet())
        for call in ((), ("pup",), ("pup", "cat", "cat"), ("pup", "x"), ("", "cat")):
            self.refused(NoCall, by_table, meet().kinds(), answer, call)


class TheAskersOwn(Refused):
    def test_told_lists_and_dicts(self):
        board = meet()
        kept = table(board)
        maps, cells = table(board)
        maps[0][0] = 99
        maps[1].append(3)
        maps.append([])
        cells[(0, 0)] = ("none",)
        cells.pop((0, 1))
        cells[(9, 9)] = ("deed", 9)
        answer = classes(board, 0)
        answer[0] = 98
        answer.append(97)
        self.assertEqual(table(board), kept)
        self.assertEqual(classes(board, 0), kept[0][0])
        self.assertEqual(board.deeds(), MEET)

    def test_each_list_stands_for_itself(self):
        maps, cells = table(Board(Kinds(PETS), 3, ()))
        maps[0][0] = 99
        self.assertEqual(maps[1:], [[0] * 7] * 2)

    def test_tables_handed_in_stay(self):
        board = meet()
        maps, cells = table(board)
        cells.pop((0, 0))
        is_table(board, (maps, cells))
        by_table(board.kinds(), (maps, cells), ("pup", "pup"))
        by_table(board.kinds(), (maps, cells), ("pup", "cat"))
        fresh = table(board)
        self.assertEqual(maps, fresh[0])
        self.assertEqual(cells, {key: answer for key, answer in fresh[1].items() if key != (0, 0)})
