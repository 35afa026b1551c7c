"""Point 34, and what points 2, 3, 8, 9, 10 and 15 say of houses."""

from random import Random

from manydeeds.boards import Board
from manydeeds.calls import told
from manydeeds.errors import DeedError, NoBoard, NoCall, NoDeed, NoKind, Ring, Same, TooMany, Twice
from manydeeds.houses import House
from manydeeds.kinds import Kinds
from own import SHAPES, Own, drawn
from refusals import Refused
from samples import PETS, ladder_rows, plain_rows

ROWS = [("low", ("one", "two")), ("one", ()), ("two", ()), ("far", ())]


def state(house):
    board = house.board()
    return (board.kinds().rows(), board.places(), board.deeds(), house.asked(), house.looked())


class Asking(Refused):
    def test_what_is_told(self):
        house = House(Board(Kinds(ROWS), 1, [("one",), ("two",)]))
        self.assertEqual(house.ask(("low",)), ("clash", 0, 1))
        self.assertEqual(house.ask(("one",)), ("deed", 0))
        self.assertEqual(house.ask(("far",)), ("none",))

    def test_each_call_is_kept_once_in_the_order_of_first_asking(self):
        house = House(Board(Kinds(ROWS), 2, [("one", "two")]))
        self.assertEqual((house.asked(), house.looked()), ([], 0))
        for call in (("far", "low"), ("low", "low"), ("far", "low"), ("one", "one"), ("low", "low")):
            house.ask(call)
        self.assertEqual(house.asked(), [("far", "low"), ("low", "low"), ("one", "one")])
        self.assertEqual(house.looked(), 3)

    def test_all_calls_of_drawn_boards(self):
        for own in drawn(34, 40, SHAPES):
            house = House(own.board())
            for turn in range(2):
                for call in own.calls():
                    self.assertEqual(house.ask(call), own.told(call))
                self.assertEqual(house.asked(), own.calls())
                self.assertEqual(house.looked(), len(own.calls()))

    def test_calls_of_large_boards(self):
        house = House(Board(Kinds(plain_rows(24)), 4, [("a",) * 4]))
        self.assertEqual(house.ask(("a",) * 4), ("deed", 0))
        self.assertEqual(house.deed(("b",) * 4), [])
        self.assertEqual(house.tie("a", "b"), [])
        self.assertEqual(house.tie("c", "a"), [])
        self.assertEqual(house.looked(), 2)


class Changes(Refused):
    def setUp(self):
        self.house = House(Board(Kinds(ROWS), 1, [("one",)]))

    def ask_all(self):
        for word in ("far", "two", "low", "one"):
            self.house.ask((word,))

    def test_one_more_deed(self):
        self.ask_all()
        self.assertEqual(self.house.deed(("two",)), [
            (("two",), ("none",), ("deed", 1)), (("low",), ("deed", 0), ("clash", 0, 1))])
        self.assertEqual(self.house.board().deeds(), [("one",), ("two",)])
        self.assertEqual(self.house.deed(("low",)), [(("low",), ("clash", 0, 1), ("deed", 2))])
        self.assertEqual(self.house.looked(), 4)

    def test_one_more_kind(self):
        self.ask_all()
        for ups in (["low"], ()):
            self.assertEqual(self.house.kind("new" + "x" * len(ups), ups), [])
        self.assertEqual(self.house.board().kinds().rows(), ROWS + [("newx", ("low",)), ("new", ())])
        self.assertEqual(self.house.looked(), 4)
        self.assertEqual(self.house.ask(("newx",)), ("deed", 0))
        self.assertEqual(self.house.looked(), 5)

    def test_a_tie(self):
        self.ask_all()
        self.house.deed(("far",))
        self.assertEqual(self.house.tie("two", "far"), [
            (("two",), ("none",), ("deed", 1)), (("low",), ("deed", 0), ("clash", 0, 1))])
        self.assertEqual(self.house.looked(), 6)
        self.assertEqual(dict(self.house.board().kinds().rows())["two"], ("far",))

    def test_a_tie_that_changes_nothing_is_looked_at(self):
        self.ask_all()
        self.assertEqual(self.house.tie("one", "far"), [])
        self.assertEqual(self.house.looked(), 6)
        self.assertEqual(self.house.tie("low", "far"), [])
        self.assertEqual(self.house.looked(), 7)
        self.assertEqual(self.house.tie("far", "two"), [])
        self.assertEqual(self.house.looked(), 10)

    def test_only_asked_calls_are_told(self):
        self.assertEqual(self.house.deed(("two",)), [])
        self.assertEqual(self.house.tie("two", "far"), [])
        self.assertEqual((self.house.asked(), self.house.looked()), ([], 0))
        self.house.ask(("low",))
        self.assertEqual(self.house.deed(("low",)), [(("low",), ("clash", 0, 1), ("deed", 2))])

    def test_a_call_is_looked_at_once_for_a_tie_however_often_it_has_such_kinds(self):
        house = House(Board(Kinds(ROWS), 3, [("far", "far", "far")]))
        house.ask(("low", "two", "low"))
        house.ask(("far", "one", "far"))
        house.ask(("one", "one", "low"))
        self.assertEqual(house.tie("two", "far"), [(("low", "two", "low"), ("none",), ("deed", 0))])
        self.assertEqual(house.looked(), 5)

    def test_a_third_nearest_deed_comes_forth(self):
        rows = [("low", ("a", "b", "c")), ("a", ()), ("b", ()), ("c", ())]
        house = House(Board(Kinds(rows), 1, [("a",), ("b",)]))
        house.ask(("low",))
        self.assertEqual(house.deed(("c",)), [])
        self.assertEqual(house.tie("c", "a"), [(("low",), ("clash", 0, 1), ("clash", 1, 2))])
        self.assertEqual(house.tie("c", "b"), [(("low",), ("clash", 1, 2), ("deed", 2))])


class OwnHouse:
    """Point 34 word by word: the calls, and the count, of a board that is told anew each time."""

    def __init__(self, own):
        self.own = own
        self.asked = []
        self.looked = 0

    def ask(self, call):
        if call not in self.asked:
            self.asked.append(call)
            self.looked += 1
        return self.own.told(call)

    def move(self, after):
        before, self.own = self.own, after
        return [(call, before.told(call), after.told(call)) for call in self.asked
                if before.told(call) != after.told(call)]

    def tie(self, one, other):
        self.looked += sum(any((word, one) in self.own.pairs for word in call) for call in self.asked)
        return self.move(self.own.with_tie(one, other))


class DrawnRows(Refused):
    def step(self, random, house, mine):
        """One drawn row, told to both."""
        own = mine.own
        choice = random.choice("aaaadkt")
        call = tuple(random.choice(own.words) for place in range(own.places))
        if choice == "a":
            self.assertEqual(house.ask(call), mine.ask(call))
        elif choice == "d" and call not in own.deeds:
            self.assertEqual(house.deed(call), mine.move(own.with_deed(call)))
        elif choice == "k" and len(own.words) < 24:
            word = "n" + "abcdefghijklmnopqrstuvwxyz"[len(own.words)]
            ups = random.sample(own.words, random.randint(0, min(3, len(own.words))))
            self.assertEqual(house.kind(word, ups), [])
            self.assertEqual(mine.move(own.with_kind(word, tuple(ups))), [])
        elif choice == "t":
            pairs = [(one, other) for one in own.words for other in own.words if own.may_tie(one, other)]
            for one, other in random.sample(pairs, min(1, len(pairs))):
                self.assertEqual(house.tie(one, other), mine.tie(one, other))

    def hold(self, house, mine):
        self.assertEqual(state(house), (mine.own.rows, mine.own.places, mine.own.deeds, mine.asked, mine.looked))

    def test_as_told_anew(self):
        random = Random(341)
        for own in drawn(342, 60, SHAPES[1:]):
            house = House(own.board())
            mine = OwnHouse(own)
            for turn in range(30):
                self.step(random, house, mine)
                self.hold(house, mine)
            anew = House(house.board())
            for call in house.asked():
                self.assertEqual(house.ask(call), anew.ask(call))
                self.assertEqual(house.ask(call), told(house.board(), call))

    def test_two_houses_by_turns(self):
        random = Random(343)
        for own in drawn(344, 20, SHAPES[3:7]):
            board = own.board()
            pairs = [(House(board), OwnHouse(own)) for turn in range(2)]
            for turn in range(40):
                house, mine = random.choice(pairs)
                self.step(random, house, mine)
            for house, mine in pairs:
                self.hold(house, mine)
            self.assertEqual((board.kinds().rows(), board.deeds()), (own.rows, own.deeds))

    def test_refusals_in_drawn_rows_change_nothing(self):
        random = Random(345)
        refused = 0
        for own in drawn(346, 40, SHAPES[1:]):
            house = House(own.board())
            mine = OwnHouse(own)
            for turn in range(20):
                self.step(random, house, mine)
                words = mine.own.words + ["zz"]
                call = tuple(random.choice(words) for place in range(random.randint(0, own.places + 1)))
                one, other = random.choice(words), random.choice(words)
                wrong = [(house.ask, call)] * ("zz" in call or len(call) != own.places)
                wrong += [(house.deed, call)] * ("zz" in call or len(call) != own.places or call in mine.own.deeds)
                wrong += [(house.kind, one, [other])] * (one != "zz" or other == "zz")
                wrong += [(house.tie, one, other)] * ("zz" in (one, other) or not mine.own.may_tie(one, other))
                for deed, *handed in wrong:
                    with self.assertRaises(DeedError):
                        deed(*handed)
                    refused += 1
                    self.hold(house, mine)
        self.assertGreater(refused, 500)


class WhatIsRefused(Refused):
    def setUp(self):
        self.house = House(Board(Kinds(PETS), 2, [("dog", "cat"), ("pet", "thing")]))
        for call in (("pup", "cat"), ("stone", "dog"), ("cat", "cat")):
            self.house.ask(call)
        self.before = state(self.house)

    def tearDown(self):
        self.assertEqual(state(self.house), self.before)
        self.assertEqual([self.house.ask(call) for call in self.house.asked()],
                         [("deed", 0), ("none",), ("deed", 1)])
        self.assertEqual(state(self.house), self.before)

    def test_asked_calls(self):
        for wrong in ((), ("dog",), ("dog",) * 3, ("dog",) * 8, ("dog", "x"), ("x", "dog"), ("", ""), ("dog", "Dog")):
            self.refused(NoCall, self.house.ask, wrong)

    def test_deeds(self):
        for wrong in ((), ("dog",), ("dog",) * 3, ("dog", "x"), ("x", "dog"), ("dog", "")):
            self.refused_number(NoDeed, 2, self.house.deed, wrong)
        self.refused_number(Same, 2, self.house.deed, ("dog", "cat"))
        self.refused_number(Same, 2, self.house.deed, ("pet", "thing"))

    def test_kinds(self):
        for word in ("", "New", "abcdefghi", "a b"):
            self.refused_word(NoKind, word, self.house.kind, word, [])
        self.refused_word(Twice, "dog", self.house.kind, "dog", [])
        self.refused(TooMany, self.house.kind, "new", ["dog"] * 9)
        self.refused_word(NoKind, "x", self.house.kind, "new", ["dog", "x"])
        self.refused_word(Twice, "dog", self.house.kind, "new", ("dog", "cat", "dog"))
        self.assertEqual(self.refused(Ring, self.house.kind, "new", ["new"]).ring, ["new"])

    def test_ties(self):
        self.refused_word(NoKind, "x", self.house.tie, "x", "dog")
        self.refused_word(NoKind, "y", self.house.tie, "dog", "y")
        self.refused_word(NoKind, "x", self.house.tie, "x", "y")
        self.refused_word(Twice, "pet", self.house.tie, "dog", "pet")
        self.refused(Ring, self.house.tie, "thing", "pup")
        self.assertEqual(self.refused(Ring, self.house.tie, "pup", "pup").ring, ["pup"])


class Bounds(Refused):
    def test_the_sixtyfifth_deed(self):
        calls = Own(plain_rows(9), 2, []).calls()
        house = House(Board(Kinds(plain_rows(9)), 2, calls[:63]))
        house.ask(calls[63])
        self.assertEqual(house.deed(calls[63]), [(calls[63], ("none",), ("deed", 63))])
        before = state(house)
        for call in (calls[64], calls[0], ("a",), ("z", "z")):
            self.refused(NoBoard, house.deed, call)
        self.assertEqual(state(house), before)

    def test_the_twentyfifth_kind(self):
        house = House(Board(Kinds(plain_rows(23)), 1, []))
        self.assertEqual(house.kind("y", ["a"]), [])
        before = state(house)
        self.refused(TooMany, house.kind, "z", [])
        self.refused(TooMany, house.kind, "", ["?"])
        self.assertEqual(state(house), before)

    def test_a_ninth_up(self):
        house = House(Board(Kinds(ladder_rows(10)), 1, [("a",)]))
        house.ask(("j",))
        self.refused(TooMany, house.tie, "j", "a")
        self.assertEqual(house.ask(("j",)), ("deed", 0))
        self.assertEqual(house.looked(), 1)


class TheAskersOwn(Refused):
    def test_what_is_told_and_handed_in(self):
        deeds = [("one",)]
        ups = ["low"]
        house = House(Board(Kinds(ROWS), 1, deeds))
        house.ask(("low",))
        house.ask(("two",))
        house.kind("new", ups)
        ups.append("far")
        deeds.append(("far",))
        house.asked().clear()
        answer = house.deed(("two",))
        answer.clear()
        self.assertEqual(house.kind("last", ()), [])
        house.kind("more", ()).append("x")
        self.assertEqual(house.asked(), [("low",), ("two",)])
        self.assertEqual(house.board().deeds(), [("one",), ("two",)])
        self.assertEqual(dict(house.board().kinds().rows())["new"], ("low",))
        self.assertEqual(house.kind("end", ()), [])

    def test_boards_told_earlier_stay(self):
        first = Board(Kinds(ROWS), 1, [("one",)])
        house = House(first)
        house.ask(("low",))
        house.deed(("two",))
        second = house.board()
        house.tie("two", "one")
        house.kind("new", ["far"])
        self.assertEqual((first.deeds(), first.kinds().rows()), ([("one",)], ROWS))
        self.assertEqual((second.deeds(), second.kinds().rows()), ([("one",), ("two",)], ROWS))
        self.assertEqual(told(second, ("low",)), ("clash", 0, 1))
        self.assertEqual(house.ask(("low",)), ("deed", 1))
