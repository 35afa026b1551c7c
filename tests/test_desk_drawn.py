"""Drawn rows told to desks, against an own telling of points 44 and 45."""

from random import Random

from manydeeds.calls import nexts, told
from manydeeds.desk import Desk
from manydeeds.errors import DeedError, NoRow
from manydeeds.evens import even
from manydeeds.mends import mend
from manydeeds.smooth import smooth
from manydeeds.texts import book_text, read_book, term_text
from own import NAMES, OwnBook, draw_filling, draw_term
from refusals import Refused
from samples import ALPHABET


class OwnDesk:
    """Point 44 word by word: the book is made anew from the rows that stand, and every asked call told anew."""

    def __init__(self):
        self.rows = []
        self.asked = []
        # Counted to see that the draws come to such rows.
        self.forgotten = self.changed = 0
        self.book = self.made()

    def made(self):
        kinds, names = [("thing", ())], []
        for row in self.rows:
            words = row.split()
            if words[0] == "kind":
                kinds.append((words[1], tuple(words[3:])))
            elif words[0] == "tie":
                kinds = [(word, ups + (words[2],) * (word == words[1])) for word, ups in kinds]
            elif words[0] == "name":
                names.append((words[1], int(words[2]), ()))
            else:
                deed = (tuple(words[2:-2]), words[-1])
                names = [(word, places, deeds + (deed,) * (word == words[1])) for word, places, deeds in names]
        return OwnBook(kinds, names)

    def text(self, word, call):
        return " ".join(str(part) for part in self.book.boards[word].told(call))

    def move(self):
        before = {asked: self.text(*asked) for asked in self.asked}
        self.book = self.made()
        kept = [(word, call) for word, call in self.asked
                if word in self.book.boards and set(call) <= set(self.book.words)]
        self.forgotten += len(self.asked) - len(kept)
        self.asked = kept
        after = {asked: self.text(*asked) for asked in self.asked}
        changed = [(word, call) for word, call in self.asked if before[word, call] != after[word, call]]
        self.changed += len(changed)
        return ["ok"] + [f"{word} {' '.join(call)}: {before[word, call]} -> {after[word, call]}"
                         for word, call in changed]

    def tell(self, row):
        self.rows.append(row)
        return self.move()

    def back(self):
        self.rows.pop()
        return self.move()

    def ask(self, word, call):
        if (word, call) not in self.asked:
            self.asked.append((word, call))
        return [self.text(word, call)]

    def run(self, filling, term):
        answer = self.book.run(filling, term)
        if answer[0] == "kind":
            return [f"kind {answer[1]}"]
        spot = ".".join(str(number) for number in answer[1]) or "-"
        return [" ".join([answer[0], spot, *answer[2], *(str(number) for number in answer[3:])])]


class DrawnRows(Refused):
    def draw_tell(self, random, mine):
        """A row that tells something and is let, or None."""
        book = mine.book
        choice = random.choice(("kind", "tie", "name", "deed", "deed", "deed", "deed"))
        if choice == "kind" and len(book.words) < 7:
            word = random.choice([letter for letter in ALPHABET if letter not in book.words])
            ups = random.sample(book.words, random.randint(0, min(3, len(book.words))))
            return f"kind {word} under {' '.join(ups)}" if ups else f"kind {word}"
        if choice == "tie":
            ups = dict(book.rows)
            pairs = [(one, other) for one in book.words for other in book.words
                     if other not in ups[one] and (other, one) not in book.pairs]
            return "tie {} {}".format(*random.choice(pairs)) if pairs else None
        if choice == "name" and len(book.names) < 3:
            words = [word for word in NAMES if word not in book.boards]
            return f"name {random.choice(words)} {random.randint(1, 3)}"
        if choice == "deed" and book.names:
            word, places, deeds = random.choice(book.names)
            call = draw_filling(random, book, places)
            if call not in book.boards[word].deeds:
                return f"deed {word} {' '.join(call)} gives {random.choice(book.words)}"
        return None

    def ask_one(self, random, desk, mine):
        book = mine.book
        word, places, deeds = random.choice(book.names)
        call = draw_filling(random, book, places)
        kinds = " ".join(call)
        board = book.boards[word]
        choice = random.choice(("ask", "ask", "ask", "next", "even", "mend", "smooth", "run"))
        if choice == "ask":
            self.assertEqual(desk.say(f"ask {word} {kinds}"), mine.ask(word, call))
        elif choice == "next":
            row, told = board.nexts(call)
            self.assertEqual(desk.say(f"next {word} {kinds}"), [" ".join(str(part) for part in row + list(told))])
        elif choice == "run":
            term = draw_term(random, book, places, 3)
            self.assertEqual(desk.say(f"run {term_text(term)} with {kinds}"), mine.run(call, term))
        elif len(board.calls()) <= 64 and choice == "even":
            even = board.even()
            expected = "even" if even[0] == "even" else " ".join(["clash", *even[1], str(even[2]), str(even[3])])
            self.assertEqual(desk.say(f"even {word}"), [expected])
        elif len(board.calls()) <= 64 and choice == "mend":
            expected = [" ".join([*mended, str(one), str(other)]) for mended, one, other in board.mend()[0]]
            self.assertEqual(desk.say(f"mend {word}"), expected)
        elif choice == "smooth":
            self.assertEqual(desk.say("smooth"), [self.smooth_text(book)])

    def smooth_text(self, book):
        texts = [part if isinstance(part, str) else " ".join(part) if isinstance(part, tuple) else str(part)
                 for part in book.smooth()]
        return " ".join(texts)

    def step(self, random, desk, mine):
        choice = random.random()
        if choice < 0.15 and mine.rows:
            self.assertEqual(desk.say("back"), mine.back())
        elif choice < 0.55 or not mine.book.names:
            row = self.draw_tell(random, mine)
            if row is not None:
                self.assertEqual(desk.say(row), mine.tell(row))
        else:
            self.ask_one(random, desk, mine)

    def test_as_told_anew(self):
        random = Random(441)
        forgotten = changed = 0
        for turn in range(100):
            desk, mine = Desk(), OwnDesk()
            for row in range(80):
                self.step(random, desk, mine)
                self.assertEqual(desk.say("show"), mine.book.text().split("\n"))
            forgotten += mine.forgotten
            changed += mine.changed
        self.assertGreater(forgotten, 100)
        self.assertGreater(changed, 300)

    def test_as_the_book_that_is_shown(self):
        random = Random(442)
        for turn in range(20):
            desk, mine = Desk(), OwnDesk()
            for row in range(40):
                self.step(random, desk, mine)
            shown = desk.say("show")
            book = read_book("\n".join(shown))
            self.assertEqual(book_text(book).split("\n"), shown)
            for word in book.words():
                board = book.board(word)
                for call in board.calls()[:60]:
                    answer = told(board, call)
                    row, behind = nexts(board, call)
                    kinds = " ".join(call)
                    self.assertEqual(desk.say(f"ask {word} {kinds}"), [" ".join(str(part) for part in answer)])
                    self.assertEqual(desk.say(f"next {word} {kinds}"), [" ".join(str(k) for k in row + list(behind))])
                self.assertEqual(desk.say(f"even {word}")[0].split(" ")[0], even(board)[0])
                self.assertEqual(len(desk.say(f"mend {word}")), len(mend(board)))
            self.assertEqual(desk.say("smooth")[0].split(" ")[0], smooth(book)[0])

    def test_two_desks_by_turns(self):
        random = Random(443)
        for turn in range(15):
            pairs = [(Desk(), OwnDesk()) for desk in range(2)]
            for row in range(100):
                desk, mine = random.choice(pairs)
                self.step(random, desk, mine)
            for desk, mine in pairs:
                self.assertEqual(desk.say("show"), mine.book.text().split("\n"))
                while mine.rows:
                    self.assertEqual(desk.say("back"), mine.back())
                self.refused(NoRow, desk.say, "back")

    def wrong_rows(self, random, mine):
        book = mine.book
        word = random.choice(book.words)
        rows = ["", "x", "show ", f"kind {word}", f"kind zz under {word} {word}", "kind zz under zz",
                f"tie {word} {word}", f"tie {word} zz", "name a 0", "ask zz thing", "even zz", "run 0 with zz",
                "run 1 with thing", "run a with a"]
        for name, places, deeds in book.names:
            rows += [f"name {name} 1", f"ask {name}" + " thing" * (places + 1), f"deed {name} gives thing",
                     f"deed {name}" + " thing" * (places + 1) + " gives thing", f"next {name} zz",
                     f"mend {name} {name}"]
            rows += [f"deed {name} {' '.join(call)} gives thing" for call, made in deeds]
        return rows

    def test_what_is_refused_changes_nothing(self):
        random = Random(444)
        refused = 0
        for turn in range(40):
            desk, mine = Desk(), OwnDesk()
            for row in range(40):
                self.step(random, desk, mine)
                for wrong in random.sample(self.wrong_rows(random, mine), 4):
                    with self.assertRaises(DeedError):
                        desk.say(wrong)
                    refused += 1
                self.assertEqual(desk.say("show"), mine.book.text().split("\n"))
            while mine.rows:
                self.assertEqual(desk.say("back"), mine.back())
        self.assertGreater(refused, 1000)
