"""Points 31, 32 and 33, and what points 2, 3, 8, 9, 10 and 14 say of changes."""

from random import Random

from manydeeds.boards import Board
from manydeeds.calls import told
from manydeeds.changes import by_deed, by_kind, by_tie
from manydeeds.errors import NoBoard, NoDeed, NoKind, Ring, Same, TooMany, Twice
from manydeeds.kinds import Kinds
from own import SHAPES, Own, drawn
from refusals import Refused
from samples import PETS, is_ring, ladder_rows, plain_rows

ROWS = [("low", ("one", "two")), ("one", ()), ("two", ()), ("far", ())]


class OneMoreDeed(Refused):
    def test_ordinary(self):
        board = Board(Kinds(PETS), 1, [("thing",), ("beast",)])
        self.assertEqual(by_deed(board, ("pet",)), [
            (("pup",), ("deed", 1), ("clash", 1, 2)), (("dog",), ("deed", 1), ("clash", 1, 2)),
            (("cat",), ("deed", 1), ("clash", 1, 2)), (("pet",), ("deed", 0), ("deed", 2))])
        self.assertEqual(by_deed(board, ("stone",)), [(("stone",), ("none",), ("deed", 2))])

    def test_the_first_deed(self):
        board = Board(Kinds(ROWS), 2, ())
        self.assertEqual(by_deed(board, ("one", "far")), [
            (("low", "far"), ("none",), ("deed", 0)), (("one", "far"), ("none",), ("deed", 0))])

    def test_a_clash_ends_and_another_comes(self):
        board = Board(Kinds(ROWS), 1, [("one",), ("two",)])
        self.assertEqual(by_deed(board, ("low",)), [(("low",), ("clash", 0, 1), ("deed", 2))])

    def test_where_only_the_rest_of_the_nearest_changes(self):
        # At low three deeds are nearest then, but the two that are told stay.
        rows = [("low", ("a", "b", "c")), ("a", ()), ("b", ()), ("c", ())]
        board = Board(Kinds(rows), 1, [("a",), ("b",)])
        self.assertEqual(by_deed(board, ("c",)), [(("c",), ("none",), ("deed", 2))])

    def test_a_deed_behind_all_others(self):
        board = Board(Kinds([("low", ("high",)), ("high", ())]), 1, [("low",)])
        self.assertEqual(by_deed(board, ("high",)), [(("high",), ("none",), ("deed", 1))])

    def test_drawn(self):
        random = Random(311)
        for own in drawn(31, 150, SHAPES):
            spare = [call for call in own.calls() if call not in own.deeds]
            for call in random.sample(spare, min(len(spare), 4)):
                answer = by_deed(own.board(), call)
                self.assertIsInstance(answer, list)
                self.assertEqual(answer, own.changes(own.with_deed(call)))
                self.assertTrue(all(own.within(triple[0], call) for triple in answer))
                self.assertTrue(any(triple[0] == call for triple in answer))


class OneMoreKind(Refused):
    def test_ordinary(self):
        board = Board(Kinds(ROWS), 1, [("one",), ("two",)])
        self.assertEqual(by_kind(board, "new", ["low"]), [(("new",), ("clash", 0, 1))])
        self.assertEqual(by_kind(board, "new", ("one", "far")), [(("new",), ("deed", 0))])
        self.assertEqual(by_kind(board, "new", []), [(("new",), ("none",))])

    def test_in_order_at_each_place(self):
        board = Board(Kinds([("b", ()), ("a", ("b",))]), 2, [("b", "a"), ("a", "b")])
        self.assertEqual(by_kind(board, "c", ["a"]), [
            (("b", "c"), ("deed", 0)), (("a", "c"), ("clash", 0, 1)), (("c", "b"), ("deed", 1)),
            (("c", "a"), ("clash", 0, 1)), (("c", "c"), ("clash", 0, 1))])

    def test_drawn(self):
        random = Random(321)
        for own in drawn(32, 150, SHAPES):
            ups = random.sample(own.words, random.randint(0, min(len(own.words), 3)))
            greater = own.with_kind("new", tuple(ups))
            expected = [(call, greater.told(call)) for call in greater.calls() if "new" in call]
            for handed in (ups, tuple(ups)):
                answer = by_kind(own.board(), "new", handed)
                self.assertIsInstance(answer, list)
                self.assertEqual(answer, expected)
            self.assertEqual(own.changes(greater), [])

    def test_no_call_of_the_board_is_told_otherwise(self):
        for own in drawn(322, 60, SHAPES):
            board = own.board()
            greater = board.over(board.kinds().more("new", own.words[:2]))
            for call in own.calls():
                self.assertEqual(told(greater, call), told(board, call))


class ATie(Refused):
    def test_ordinary(self):
        board = Board(Kinds(ROWS), 1, [("one",), ("far",)])
        self.assertEqual(by_tie(board, "two", "far"), [
            (("low",), ("deed", 0), ("clash", 0, 1)), (("two",), ("none",), ("deed", 1))])

    def test_a_tie_that_makes_a_deed_nearer(self):
        board = Board(Kinds(ROWS), 1, [("one",), ("two",)])
        self.assertEqual(by_tie(board, "two", "one"), [(("low",), ("clash", 0, 1), ("deed", 1))])

    def test_a_tie_that_changes_nothing(self):
        book = Kinds([("low", ("mid",)), ("mid", ("high",)), ("high", ())])
        board = Board(book, 2, [("mid", "high"), ("high", "low")])
        self.assertEqual(by_tie(board, "low", "high"), [])
        self.assertEqual(by_tie(Board(Kinds(ROWS), 1, [("one",)]), "one", "far"), [])

    def test_drawn(self):
        random = Random(331)
        changed = 0
        for own in drawn(33, 150, SHAPES[1:]):
            pairs = [(one, other) for one in own.words for other in own.words if own.may_tie(one, other)]
            for one, other in random.sample(pairs, min(len(pairs), 4)):
                answer = by_tie(own.board(), one, other)
                self.assertIsInstance(answer, list)
                self.assertEqual(answer, own.changes(own.with_tie(one, other)))
                self.assertTrue(all(any((word, one) in own.pairs for word in triple[0]) for triple in answer))
                changed += len(answer) > 0
        self.assertGreater(changed, 50)


class ADeedRefused(Refused):
    def setUp(self):
        self.board = Board(Kinds(PETS), 2, [("dog", "cat"), ("pet", "pet")])
        self.large = Board(Kinds(plain_rows(9)), 3, [("a", "b", "c")])

    def test_what_is_no_call(self):
        for wrong in ((), ("dog",), ("dog",) * 3, ("dog",) * 8, ("dog", "x"), ("", "dog"), ("Dog", "dog")):
            self.refused_number(NoDeed, 2, by_deed, self.board, wrong)
        self.refused_number(NoDeed, 1, by_deed, self.large, ("a", "b"))
        self.refused_number(NoDeed, 1, by_deed, self.large, ("a", "b", "z"))

    def test_the_same(self):
        self.refused_number(Same, 2, by_deed, self.board, ("dog", "cat"))
        self.refused_number(Same, 2, by_deed, self.board, ("pet", "pet"))
        self.refused_number(Same, 1, by_deed, self.large, ("a", "b", "c"))

    def test_the_sixtyfourth_and_the_sixtyfifth(self):
        own = Own(plain_rows(9), 2, [])
        board = Board(Kinds(own.rows), 2, own.calls()[:63])
        self.assertEqual(by_deed(board, ("i", "i")), [(("i", "i"), ("none",), ("deed", 63))])
        full = Board(Kinds(own.rows), 2, own.calls()[:64])
        for call in (("i", "i"), ("a", "a"), ("a",), ("z", "z")):
            self.refused(NoBoard, by_deed, full, call)
        large = Board(Kinds(plain_rows(9)), 3, [("a",) + call for call in own.calls()[:64]])
        self.refused(NoBoard, by_deed, large, ("i", "i", "i"))

    def test_large_boards(self):
        self.refused(TooMany, by_deed, self.large, ("a", "a", "a"))
        for kinds, places in ((24, 1), (22, 2), (8, 3), (4, 4)):
            board = Board(Kinds(plain_rows(kinds)), places, [("b",) * places])
            self.assertEqual(by_deed(board, ("a",) * places), [(("a",) * places, ("none",), ("deed", 1))])
        for kinds, places in ((23, 2), (9, 3), (5, 4), (24, 4)):
            board = Board(Kinds(plain_rows(kinds)), places, [])
            self.refused(TooMany, by_deed, board, ("a",) * places)


class AKindRefused(Refused):
    def setUp(self):
        self.board = Board(Kinds(PETS), 2, [("dog", "cat")])
        self.large = Board(Kinds(plain_rows(9)), 3, [])

    def test_as_the_making_of_the_kinds(self):
        for board, known in ((self.board, "dog"), (self.large, "a")):
            for word in ("", "New", "abcdefghi", "a b", "two2"):
                self.refused_word(NoKind, word, by_kind, board, word, [known])
            self.refused_word(Twice, known, by_kind, board, known, [])
            self.refused_word(Twice, known, by_kind, board, known, ["x"] * 9)
            self.refused(TooMany, by_kind, board, "new", ["x"] * 9)
            self.refused_word(NoKind, "x", by_kind, board, "new", [known, "x", known])
            self.refused_word(Twice, known, by_kind, board, "new", (known, known, "x"))
            self.assertEqual(self.refused(Ring, by_kind, board, "new", ["new"]).ring, ["new"])

    def test_a_twentyfifth_kind(self):
        for places in (1, 2):
            board = Board(Kinds(plain_rows(24)), places, [])
            self.refused(TooMany, by_kind, board, "new", [])
            self.refused(TooMany, by_kind, board, "New", ["x"])
        board = Board(Kinds(plain_rows(23)), 1, [("a",)])
        self.assertEqual(by_kind(board, "new", ["a"]), [(("new",), ("deed", 0))])

    def test_where_the_greater_board_is_large(self):
        for kinds, places in ((23, 1), (21, 2), (7, 3), (3, 4)):
            board = Board(Kinds(plain_rows(kinds)), places, [("a",) * places])
            answer = by_kind(board, "new", ["a"])
            self.assertEqual(len(answer), (kinds + 1) ** places - kinds ** places)
            self.assertEqual(answer[-1], (("new",) * places, ("deed", 0)))
        for kinds, places in ((22, 2), (8, 3), (4, 4), (23, 2), (9, 3), (5, 4)):
            board = Board(Kinds(plain_rows(kinds)), places, [])
            self.refused(TooMany, by_kind, board, "new", ["a"])
            self.refused_word(NoKind, "x", by_kind, board, "new", ["x"])


class ATieRefused(Refused):
    def setUp(self):
        self.board = Board(Kinds(PETS), 2, [("dog", "cat")])
        self.large = Board(Kinds([("low", ("high",)), ("high", ())] + plain_rows(8)), 3, [])

    def test_no_kinds_first(self):
        for board, known in ((self.board, "dog"), (self.large, "low")):
            self.refused_word(NoKind, "x", by_tie, board, "x", known)
            self.refused_word(NoKind, "x", by_tie, board, known, "x")
            self.refused_word(NoKind, "x", by_tie, board, "x", "y")
            self.refused_word(NoKind, "", by_tie, board, "", "")

    def test_then_what_the_tie_refuses(self):
        self.refused_word(Twice, "pet", by_tie, self.board, "dog", "pet")
        self.refused_word(Twice, "high", by_tie, self.large, "low", "high")
        rings = ((self.board, "thing", "pup"), (self.board, "pet", "pet"), (self.large, "high", "low"))
        for board, one, other in rings:
            ups = dict(board.kinds().rows())
            ups[one] = ups[one] + (other,)
            self.assertTrue(is_ring(self.refused(Ring, by_tie, board, one, other).ring, ups))

    def test_a_ninth_up(self):
        rows = ladder_rows(10)
        self.refused(TooMany, by_tie, Board(Kinds(rows), 1, []), "j", "a")
        self.refused_word(NoKind, "z", by_tie, Board(Kinds(rows), 1, []), "j", "z")
        self.assertEqual(by_tie(Board(Kinds(rows[:8] + [("x", ())]), 1, [("x",)]), "h", "x"), [
            (("h",), ("none",), ("deed", 0))])

    def test_then_large_boards(self):
        self.refused(TooMany, by_tie, self.large, "a", "b")
        for kinds, places in ((24, 1), (22, 2), (8, 3), (4, 4)):
            board = Board(Kinds(plain_rows(kinds)), places, [("a",) * places])
            self.assertEqual(len(by_tie(board, "b", "a")), 2 ** places - 1)
        for kinds, places in ((23, 2), (9, 3), (5, 4), (24, 4)):
            self.refused(TooMany, by_tie, Board(Kinds(plain_rows(kinds)), places, []), "b", "a")


class TheAskersOwn(Refused):
    def test_what_is_told_and_handed_in(self):
        board = Board(Kinds(ROWS), 1, [("one",)])
        ups = ["low", "far"]
        asks = ((by_deed, ("two",)), (by_kind, "new", ups), (by_tie, "two", "far"), (by_tie, "far", "one"))
        for ask, *handed in asks:
            answer = ask(board, *handed)
            kept = list(answer)
            answer.append("x")
            answer[0] = "y"
            self.assertEqual(ask(board, *handed), kept)
        self.assertEqual(ups, ["low", "far"])
        self.assertEqual((board.deeds(), board.kinds().rows()), ([("one",)], ROWS))

    def test_refusals_leave_the_board(self):
        board = Board(Kinds(ROWS), 1, [("one",)])
        self.refused(Same, by_deed, board, ("one",))
        self.refused(Twice, by_kind, board, "one", [])
        self.refused(Twice, by_tie, board, "low", "one")
        self.assertEqual((board.deeds(), board.kinds().rows()), ([("one",)], ROWS))
