"""Points 44 and 45, and what points 2, 3 and 35 to 43 say of desks."""

from itertools import product

from manydeeds.desk import Desk
from manydeeds.errors import (DeedError, NoBoard, NoCall, NoDeed, NoKind, NoName, NoRow, NoTerm, Ring, Same, TooMany,
                              Twice)
from refusals import Refused
from samples import ALPHABET

PETS = ["kind pet under thing", "kind beast under thing", "kind dog under pet beast", "kind cat under pet beast",
        "kind stone", "name meet 2"]


def told_desk(*rows):
    desk = Desk()
    for row in rows:
        desk.say(row)
    return desk


class Telling(Refused):
    def test_at_first(self):
        self.assertEqual(Desk().say("show"), ["kind thing"])
        self.assertEqual(Desk().say("smooth"), ["smooth"])

    def test_show(self):
        rows = PETS + ["deed meet dog pet gives dog", "name up 1", "deed meet cat cat gives stone", "tie stone cat"]
        desk = Desk()
        for row in rows:
            self.assertEqual(desk.say(row), ["ok"])
        self.assertEqual(desk.say("show"), [
            "kind thing", "kind pet under thing", "kind beast under thing", "kind dog under pet beast",
            "kind cat under pet beast", "kind stone under cat", "name meet 2", "deed meet dog pet gives dog",
            "deed meet cat cat gives stone", "name up 1"])

    def test_kinds(self):
        desk = told_desk("kind a", "kind b under a", "kind c under a b thing", "kind d")
        self.assertEqual(desk.say("show"), [
            "kind thing", "kind a", "kind b under a", "kind c under a b thing", "kind d"])

    def test_what_is_told_otherwise(self):
        desk = told_desk(*PETS, "name up 1")
        for row, answer in (("ask meet dog dog", "none"), ("ask up stone", "none"), ("ask meet cat stone", "none"),
                            ("ask meet pet dog", "none")):
            self.assertEqual(desk.say(row), [answer])
        self.assertEqual(desk.say("deed meet pet thing gives pet"), [
            "ok", "meet dog dog: none -> deed 0", "meet pet dog: none -> deed 0"])
        self.assertEqual(desk.say("deed meet thing pet gives pet"), [
            "ok", "meet dog dog: deed 0 -> clash 0 1", "meet pet dog: deed 0 -> clash 0 1"])
        self.assertEqual(desk.say("deed up beast gives pet"), ["ok"])
        self.assertEqual(desk.say("tie stone beast"), [
            "ok", "up stone: none -> deed 0", "meet cat stone: none -> deed 0"])
        self.assertEqual(desk.say("kind pup under dog"), ["ok"])
        self.assertEqual(desk.say("deed meet dog dog gives dog"), ["ok", "meet dog dog: clash 0 1 -> deed 2"])

    def test_only_what_was_asked_with_ask(self):
        desk = told_desk(*PETS)
        desk.say("next meet dog dog")
        desk.say("run meet(0, 1) with dog cat")
        desk.say("even meet")
        self.assertEqual(desk.say("deed meet thing thing gives thing"), ["ok"])
        desk.say("ask meet dog dog")
        self.assertEqual(desk.say("back"), ["ok", "meet dog dog: deed 0 -> none"])

    def test_in_the_order_of_first_asking(self):
        desk = told_desk(*PETS, "ask meet cat cat", "ask meet dog dog", "ask meet cat cat", "ask meet pet pet")
        self.assertEqual(desk.say("deed meet pet pet gives dog"), [
            "ok", "meet cat cat: none -> deed 0", "meet dog dog: none -> deed 0", "meet pet pet: none -> deed 0"])


class Back(Refused):
    def test_all_the_way(self):
        rows = PETS + ["deed meet dog pet gives dog", "tie stone cat", "name up 1", "kind pup under dog"]
        desk = Desk()
        shown = [desk.say("show")]
        for row in rows:
            desk.say(row)
            shown.append(desk.say("show"))
        for expected in shown[-2::-1]:
            self.assertEqual(desk.say("back"), ["ok"])
            self.assertEqual(desk.say("show"), expected)
        self.refused(NoRow, desk.say, "back")
        self.assertEqual(desk.say("show"), ["kind thing"])

    def test_answers_likewise(self):
        desk = told_desk(*PETS, "deed meet pet thing gives pet", "ask meet dog cat", "ask meet stone stone")
        self.assertEqual(desk.say("deed meet thing pet gives dog"), ["ok", "meet dog cat: deed 0 -> clash 0 1"])
        self.assertEqual(desk.say("back"), ["ok", "meet dog cat: clash 0 1 -> deed 0"])
        self.assertEqual(desk.say("back"), ["ok", "meet dog cat: deed 0 -> none"])
        self.assertEqual(desk.say("deed meet stone stone gives dog"), ["ok", "meet stone stone: none -> deed 0"])

    def test_only_rows_that_stand(self):
        desk = told_desk("kind a", "kind b")
        for row in ("kind a", "tie a x", "name a 5", "deed a b gives b", "ask a b", "", "show"):
            try:
                desk.say(row)
            except DeedError:
                pass
        desk.say("back")
        self.assertEqual(desk.say("show"), ["kind thing", "kind a"])
        desk.say("kind c")
        desk.say("back")
        desk.say("back")
        self.assertEqual(desk.say("show"), ["kind thing"])

    def test_a_kind_that_is_gone_is_forgotten(self):
        desk = told_desk("name up 1", "deed up thing gives thing", "kind a under thing", "ask up a", "ask up thing")
        self.assertEqual(desk.say("back"), ["ok"])
        self.refused(NoCall, desk.say, "ask up a")
        # The same word again is another kind: its call was not asked yet.
        self.assertEqual(desk.say("kind a"), ["ok"])
        self.assertEqual(desk.say("tie a thing"), ["ok"])
        self.assertEqual(desk.say("ask up a"), ["deed 0"])
        self.assertEqual(desk.say("back"), ["ok", "up a: deed 0 -> none"])

    def test_a_name_that_is_gone_is_forgotten(self):
        desk = told_desk("kind a", "name other 1", "name up 1", "ask up a", "ask other a")
        self.assertEqual(desk.say("back"), ["ok"])
        self.refused_word(NoName, "up", desk.say, "ask up a")
        self.assertEqual(desk.say("name up 1"), ["ok"])
        self.assertEqual(desk.say("deed up a gives a"), ["ok"])
        self.assertEqual(desk.say("deed other a gives a"), ["ok", "other a: none -> deed 0"])

    def test_a_name_comes_back_with_other_places(self):
        desk = told_desk("kind a", "name up 1", "ask up a", "back", "name up 2")
        self.assertEqual(desk.say("deed up a a gives a"), ["ok"])
        self.assertEqual(desk.say("ask up a a"), ["deed 0"])

    def test_a_forgotten_call_is_first_asked_anew(self):
        desk = told_desk("name up 1", "kind b", "kind a", "ask up a", "ask up b", "back", "kind a", "ask up a")
        self.assertEqual(desk.say("tie a b"), ["ok"])
        self.assertEqual(desk.say("deed up b gives b"), ["ok", "up b: none -> deed 0", "up a: none -> deed 0"])

    def test_what_is_forgotten_is_told_no_more_in_the_answer(self):
        desk = told_desk("kind a", "name up 1", "deed up a gives a", "kind b under a", "ask up b", "ask up a")
        self.assertEqual(desk.say("back"), ["ok"])
        self.assertEqual(desk.say("back"), ["ok", "up a: deed 0 -> none"])


class Asking(Refused):
    def setUp(self):
        self.desk = told_desk(*PETS, "deed meet thing thing gives thing", "deed meet pet thing gives pet",
                              "deed meet thing pet gives beast", "deed meet dog cat gives dog", "name up 1",
                              "deed up dog gives pet", "deed up pet gives dog", "name still 1")

    def say(self, row):
        answer = self.desk.say(row)
        self.assertIsInstance(answer, list)
        return answer

    def test_ask(self):
        self.assertEqual(self.say("ask meet beast dog"), ["deed 2"])
        self.assertEqual(self.say("ask meet cat dog"), ["clash 1 2"])
        self.assertEqual(self.say("ask meet stone dog"), ["none"])

    def test_next(self):
        self.assertEqual(self.say("next meet dog cat"), ["3 clash 1 2"])
        self.assertEqual(self.say("next meet beast dog"), ["2 0 none"])
        self.assertEqual(self.say("next meet cat dog"), ["clash 1 2"])
        self.assertEqual(self.say("next meet stone dog"), ["none"])
        self.assertEqual(self.say("next up dog"), ["0 1 none"])

    def test_even(self):
        self.assertEqual(self.say("even meet"), ["clash pet pet 1 2"])
        self.assertEqual(self.say("even up"), ["even"])
        self.assertEqual(self.say("even still"), ["even"])

    def test_mend(self):
        shown = self.say("show")
        self.assertEqual(self.say("mend meet"), ["pet pet 1 2"])
        self.assertEqual(self.say("mend up"), [])
        self.assertEqual(self.say("mend still"), [])
        self.assertEqual(self.say("show"), shown)
        self.desk.say("name two 1")
        self.desk.say("deed two pet gives pet")
        self.desk.say("deed two beast gives pet")
        self.assertEqual(self.say("mend two"), ["dog 0 1", "cat 0 1"])

    def test_smooth(self):
        self.assertEqual(self.say("smooth"), ["clash meet pet pet 1 2"])
        self.desk.say("deed meet pet pet gives stone")
        self.assertEqual(self.say("smooth"), ["rough meet 3 4"])
        other = told_desk("kind a under thing", "name up 1", "deed up a gives a", "deed up thing gives thing")
        self.assertEqual(other.say("smooth"), ["smooth"])

    def test_run(self):
        self.assertEqual(self.say("run 0 with dog"), ["kind dog"])
        self.assertEqual(self.say("run 1 with dog cat"), ["kind cat"])
        self.assertEqual(self.say("run up(0) with dog"), ["kind pet"])
        self.assertEqual(self.say("run meet(up(0), 1) with dog stone"), ["none - pet stone"])
        self.assertEqual(self.say("run up(0) with stone"), ["none - stone"])
        self.assertEqual(self.say("run meet(0, meet(0, up(up(1)))) with dog stone"), ["none 1.1.0 stone"])
        self.assertEqual(self.say("run meet(1, 0) with dog cat"), ["clash - cat dog 1 2"])
        self.assertEqual(self.say("run up(meet(1, meet(1, 0))) with dog cat"), ["clash 0.1 cat dog 1 2"])
        self.assertEqual(self.say("run meet(0, 11) with " + " ".join(["dog"] * 11 + ["cat"])), ["kind dog"])


class WordsOfTheForms(Refused):
    def test_kinds_and_names_called_like_them(self):
        words = ("under", "gives", "kind", "with")
        desk = told_desk("kind under", "kind gives under under", "kind kind under under gives", "kind with under kind",
                         "name under 1", "name gives 2", "name kind 1", "name with 2",
                         "deed gives gives gives gives gives", "deed under under gives gives",
                         "deed with with with gives with", "deed kind gives gives under", "tie under thing")
        self.assertEqual(desk.say("show")[1:5], [
            "kind under under thing", "kind gives under under", "kind kind under under gives", "kind with under kind"])
        self.assertEqual(desk.say("show")[5:], [
            "name under 1", "deed under under gives gives", "name gives 2", "deed gives gives gives gives gives",
            "name kind 1", "deed kind gives gives under", "name with 2", "deed with with with gives with"])
        self.assertEqual(desk.say("ask with with with"), ["deed 0"])
        self.assertEqual(desk.say("ask under gives"), ["deed 0"])
        self.assertEqual(desk.say("run with(0, with(0, 0)) with with"), ["kind with"])
        self.assertEqual(desk.say("run with(0, 1) with with under"), ["none - with under"])
        self.assertEqual(desk.say("run 1 with with with"), ["kind with"])
        self.assertEqual(desk.say("even with"), ["even"])
        for word in words:
            self.assertEqual(len(desk.say(f"ask {word} with" + " with" * (word in ("gives", "with")))), 1)


class NoRows(Refused):
    def setUp(self):
        self.desk = told_desk(*PETS, "deed meet dog pet gives dog", "ask meet dog dog")
        self.shown = self.desk.say("show")

    def tearDown(self):
        self.assertEqual(self.desk.say("show"), self.shown)
        self.assertEqual(self.desk.say("back"), ["ok", "meet dog dog: deed 0 -> none"])

    def no_rows(self, *rows):
        for row in rows:
            self.refused(NoRow, self.desk.say, row)

    def test_first_words(self):
        self.no_rows("", " ", "  ", "x", "Show", "SHOW", "shows", "sho", "kinds a", "Kind a", "asks meet dog dog",
                     "meet", "meet dog dog", "thing", "1", "-", "~", "with", "under thing", "gives", "none", "ok",
                     "back?", "help", "deeds meet dog dog gives dog", "runs 0 with dog", "run",
                     "Run 0 with dog", "with run 0 dog")

    def test_numbers_of_words(self):
        self.no_rows("show meet", "show show", "smooth meet", "smooth smooth", "back back", "back meet", "back 1",
                     "even", "even meet meet", "mend", "mend meet dog", "tie", "tie dog", "tie dog cat pet", "kind",
                     "kind a b", "kind a under", "kind a dog", "kind a dog pet", "kind a dog pet cat", "name", "name a",
                     "name a 1 1", "name a 1 b", "ask", "ask meet", "next", "next meet", "deed", "deed meet",
                     "deed meet dog", "deed meet gives", "deed meet gives dog", "deed meet dog gives",
                     "deed meet dog pet dog",
                     "deed meet dog dog gives", "deed meet dog gives dog cat", "run 0", "run 0 with", "run with dog")

    def test_blanks(self):
        rows = ["show", "smooth", "back", "even meet", "mend meet", "ask meet dog dog", "next meet dog dog", "kind a",
                "kind a under dog cat", "tie dog stone", "name a 1", "deed meet cat dog gives dog"]
        for row in rows:
            self.no_rows(" " + row, row + " ", "  " + row, row + "  ")
            words = row.split(" ")
            for spot in range(1, len(words)):
                self.no_rows(" ".join(words[:spot]) + "  " + " ".join(words[spot:]))
        self.no_rows(" run 0 with dog", "run 0 with dog ", "run 0 with  dog", "run 0 with dog  cat", "run 0 with ",
                     "run 0 with  ")

    def test_words_that_are_none(self):
        rows = ["even meet", "mend meet", "ask meet dog dog", "next meet dog dog", "kind a", "kind a under dog cat",
                "tie dog stone", "name a 1", "deed meet cat dog gives dog"]
        for row in rows:
            words = row.split(" ")
            for spot, wrong in product(range(1, len(words)), ("", "Dog", "abcdefghi", "two2", "0", "-", "dog,")):
                if words[spot] not in ("1", "under", "gives"):
                    self.no_rows(" ".join(words[:spot] + [wrong] + words[spot + 1:]))
        for wrong in ("", "Dog", "abcdefghi", "0", "with2"):
            self.no_rows("run 0 with " + wrong, "run 0 with dog " + wrong, f"run 0 with {wrong} dog")

    def test_places(self):
        for wrong in ("0", "5", "9", "10", "01", "-1", "a", "one", "1.", "+1"):
            self.no_rows("name a " + wrong)

    def test_under_gives_and_with_in_their_places(self):
        self.no_rows("kind a b under c", "kind a above dog", "kind a dog under", "kind a Under dog",
                     "deed meet dog gives dog dog", "deed gives meet dog dog dog", "deed meet dog dog give dog",
                     "deed meet dog dog dog dog", "deed meet dog dog Gives dog", "run 0 With dog", "run 0with dog",
                     "run 0 withdog", "run 0 dog with", "run 0, with, dog", "run meet(0, 0)with dog")

    def test_no_sign_of_a_term(self):
        self.no_rows("run  with dog", "run with dog", "run with with dog")


class Refusals(Refused):
    def setUp(self):
        self.desk = told_desk(*PETS, "deed meet dog pet gives dog", "deed meet cat pet gives dog", "name up 1",
                              "ask meet dog dog")
        self.shown = self.desk.say("show")

    def tearDown(self):
        self.assertEqual(self.desk.say("show"), self.shown)
        self.assertEqual([self.desk.say("back") for turn in range(3)], [
            ["ok"], ["ok"], ["ok", "meet dog dog: deed 0 -> none"]])

    def test_names(self):
        for row in ("deed none dog gives dog", "ask none dog", "next none dog", "even none", "mend none"):
            self.refused_word(NoName, "none", self.desk.say, row)
        for row in ("deed dog x gives y", "ask dog x", "next dog x y z", "even dog", "mend dog"):
            self.refused_word(NoName, "dog", self.desk.say, row)

    def test_no_row_goes_ahead_of_no_name(self):
        for row in ("deed none gives dog", "ask none", "ask none Dog", "next none dog ", "even none dog", "mend none 1",
                    "deed none dog gives Dog", "deed none dog dog dog"):
            self.refused(NoRow, self.desk.say, row)

    def test_kinds(self):
        self.refused_word(Twice, "dog", self.desk.say, "kind dog")
        self.refused_word(Twice, "dog", self.desk.say, "kind dog under x")
        self.refused_word(NoKind, "x", self.desk.say, "kind a under dog x y")
        self.refused_word(Twice, "dog", self.desk.say, "kind a under dog cat dog x")
        self.refused(TooMany, self.desk.say, "kind a under b c d e f g h i j")
        self.assertEqual(self.refused(Ring, self.desk.say, "kind a under a").ring, ["a"])

    def test_ties(self):
        self.refused_word(NoKind, "x", self.desk.say, "tie x y")
        self.refused_word(NoKind, "y", self.desk.say, "tie dog y")
        self.refused_word(NoKind, "meet", self.desk.say, "tie meet dog")
        self.refused_word(Twice, "pet", self.desk.say, "tie dog pet")
        self.refused(Ring, self.desk.say, "tie thing dog")
        self.assertEqual(self.refused(Ring, self.desk.say, "tie stone stone").ring, ["stone"])

    def test_names_told_twice(self):
        self.refused_word(Twice, "meet", self.desk.say, "name meet 2")
        self.refused_word(Twice, "up", self.desk.say, "name up 4")

    def test_deeds(self):
        for row in ("deed meet dog gives dog", "deed meet dog dog dog gives dog", "deed meet dog x gives y",
                    "deed meet x y gives dog"):
            self.refused_number(NoDeed, 2, self.desk.say, row)
        self.refused_number(Same, 2, self.desk.say, "deed meet dog pet gives cat")
        self.refused_number(Same, 2, self.desk.say, "deed meet cat pet gives x")
        self.refused_word(NoKind, "x", self.desk.say, "deed meet dog dog gives x")
        self.refused_word(NoKind, "meet", self.desk.say, "deed meet dog dog gives meet")
        self.refused_number(NoDeed, 0, self.desk.say, "deed up dog dog gives x")

    def test_calls(self):
        for ask in ("ask", "next"):
            for kinds in ("dog", "dog dog dog", "dog x", "x dog", "dog meet", "dog " * 7 + "dog"):
                self.refused(NoCall, self.desk.say, f"{ask} meet {kinds}")

    def test_terms(self):
        for term in ("dog", "00", "100", "-1", "up()", "up(0", "up(0) ", " up(0)", "up( 0)", "up(0,0)", "Up(0)", " ",
                     "meet(0,  0)", "  ", "up(0)  ", "a(" * 12 + "0" + ")" * 12, "a(" + "0, " * 39 + "0)"):
            self.refused(NoTerm, self.desk.say, f"run {term} with dog")
            # The text of a term goes ahead of the filling.
            self.refused(NoTerm, self.desk.say, f"run {term} with x")
            self.refused(NoTerm, self.desk.say, f"run {term} with " + " ".join(["x"] * 13))
        for term in ("1", "99", "up(1)", "none(0)", "up(0, 0)", "meet(0)", "dog(0)", "meet(0, up(1))"):
            self.refused(NoTerm, self.desk.say, f"run {term} with dog")
            self.refused_word(NoKind, "x", self.desk.say, f"run {term} with dog x y")
            self.refused(TooMany, self.desk.say, f"run {term} with " + " ".join(["x"] * 13))
        self.refused_word(NoKind, "with", self.desk.say, "run 0 with with")
        self.assertEqual(self.desk.say("run 11 with " + " ".join(["dog"] * 12)), ["kind dog"])


class Bounds(Refused):
    def test_a_twentyfifth_kind(self):
        desk = told_desk(*[f"kind {letter}" for letter in ALPHABET[:23]])
        self.refused(TooMany, desk.say, "kind last")
        self.refused(TooMany, desk.say, "kind a under x x")
        desk.say("back")
        self.assertEqual(desk.say("kind last"), ["ok"])

    def test_a_ninth_name(self):
        desk = told_desk(*[f"name {letter} 1" for letter in "abcdefgh"])
        self.refused(TooMany, desk.say, "name i 1")
        self.refused(TooMany, desk.say, "name a 1")
        desk.say("back")
        self.assertEqual(desk.say("name i 4"), ["ok"])

    def test_a_sixtyfifth_deed(self):
        calls = list(product("abcdefghi", repeat=2))
        desk = told_desk(*[f"kind {letter}" for letter in "abcdefghi"], "name meet 2",
                         *[f"deed meet {one} {two} gives a" for one, two in calls[:64]])
        self.assertEqual(desk.say("ask meet h a"), ["deed 63"])
        for row in ("deed meet i i gives a", "deed meet i gives a", "deed meet a a gives x"):
            self.refused(NoBoard, desk.say, row)
        self.refused_word(NoName, "none", desk.say, "deed none i i gives a")

    def test_large_boards(self):
        desk = told_desk("name four 4", "name two 2", "deed two thing thing gives thing",
                         *[f"kind {letter}" for letter in "abc"])
        self.assertEqual([desk.say("even four"), desk.say("mend four"), desk.say("smooth")], [["even"], [], ["smooth"]])
        desk.say("kind d")
        for row in ("even four", "mend four", "smooth"):
            self.refused(TooMany, desk.say, row)
        self.assertEqual([desk.say("even two"), desk.say("mend two")], [["even"], []])
        self.assertEqual(desk.say("ask four a b c d"), ["none"])
        self.assertEqual(desk.say("deed four a b c d gives a"), ["ok", "four a b c d: none -> deed 0"])
        self.refused_word(NoName, "none", desk.say, "even none")

    def test_a_mend_of_too_many_deeds(self):
        letters = "abcdefghijklm"
        desk = told_desk("kind y", "kind z", "kind x under y z", *[f"kind {letter}" for letter in letters],
                         "name meet 2")
        for letter in letters[:11]:
            for high in "yz":
                desk.say(f"deed meet {high} {letter} gives y")
                desk.say(f"deed meet {letter} {high} gives y")
        self.assertEqual(len(desk.say("show")), 18 + 44)
        self.refused(TooMany, desk.say, "mend meet")
        desk.say("back")
        self.assertEqual(len(desk.say("mend meet")), 64 - 43)


class TheAskersOwn(Refused):
    def test_what_is_told(self):
        desk = told_desk(*PETS, "deed meet pet thing gives pet", "deed meet thing pet gives pet", "ask meet dog dog")
        for row in ("show", "mend meet", "ask meet dog dog", "smooth", "even meet"):
            answer = desk.say(row)
            kept = list(answer)
            answer.append("x")
            answer[0] = "y"
            self.assertEqual(desk.say(row), kept)
        desk.say("back").clear()
        self.assertEqual(desk.say("deed meet thing pet gives pet"), ["ok", "meet dog dog: deed 0 -> clash 0 1"])
