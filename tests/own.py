"""Boards drawn for the tests, and an own telling of the points on them, straight from their words."""

from itertools import permutations, product
from random import Random

from manydeeds.boards import Board
from manydeeds.books import Book
from manydeeds.kinds import Kinds
from samples import ALPHABET, under_pairs


class Own:
    """A board as the points tell of it, without asking the program."""

    def __init__(self, rows, places, deeds):
        self.rows = [(word, tuple(ups)) for word, ups in rows]
        self.words = [word for word, ups in self.rows]
        self.pairs = under_pairs(dict(self.rows))
        self.places = places
        self.deeds = list(deeds)
        self.known = {}

    def board(self):
        return Board(Kinds(self.rows), self.places, self.deeds)

    def calls(self):
        return list(product(self.words, repeat=self.places))

    def within(self, one, other):
        return all((low, high) in self.pairs for low, high in zip(one, other))

    def fitting(self, call):
        return [k for k, deed in enumerate(self.deeds) if self.within(call, deed)]

    def nearest_of(self, numbers):
        return [k for k in numbers
                if not any(j != k and self.within(self.deeds[j], self.deeds[k]) for j in numbers)]

    def nearest(self, call):
        return self.nearest_of(self.fitting(call))

    def told_of(self, numbers):
        near = self.nearest_of(numbers)
        if len(near) > 1:
            return ("clash", near[0], near[1])
        return ("deed", near[0]) if near else ("none",)

    def told(self, call):
        if call not in self.known:
            self.known[call] = self.told_of(self.fitting(call))
        return self.known[call]

    def nexts(self, call):
        row = []
        while True:
            told = self.told_of([k for k in self.fitting(call) if k not in row])
            if told[0] != "deed":
                return (row, told)
            row.append(told[1])

    def above(self, word):
        return [high for high in self.words if (word, high) in self.pairs]

    def is_line(self, word, line):
        return (sorted(line) == sorted(self.above(word))
                and all((late, early) not in self.pairs
                        for k, late in enumerate(line) for early in line[:k]))

    def lines(self, word):
        return [list(line) for line in permutations(self.above(word)) if self.is_line(word, line)]

    def lineups(self, call):
        orders = [list(order) for order in permutations(range(self.places))]
        lines = [list(choice) for choice in product(*(self.lines(word) for word in call))]
        return list(product(orders, lines))

    def is_lineup(self, call, lineup):
        order, lines = lineup
        return (sorted(order) == list(range(self.places)) and len(lines) == self.places
                and all(self.is_line(word, line) for word, line in zip(call, lines)))

    def goes_ahead(self, one, other, lineup):
        order, lines = lineup
        for place in order:
            mine, theirs = self.deeds[one][place], self.deeds[other][place]
            if mine != theirs:
                return lines[place].index(mine) < lines[place].index(theirs)
        raise AssertionError("two deeds on the same kinds")

    def ranked(self, call, lineup):
        numbers = self.fitting(call)
        ranks = {k: sum(self.goes_ahead(j, k, lineup) for j in numbers if j != k) for k in numbers}
        return sorted(numbers, key=ranks.get)

    def with_deed(self, call):
        return Own(self.rows, self.places, self.deeds + [call])

    def with_kind(self, word, ups):
        return Own(self.rows + [(word, ups)], self.places, self.deeds)

    def with_tie(self, one, other):
        rows = [(word, ups + (other,) * (word == one)) for word, ups in self.rows]
        return Own(rows, self.places, self.deeds)

    def may_tie(self, one, other):
        """Whether the tie makes a book, by point 8."""
        ups = dict(self.rows)[one]
        return len(ups) < 8 and other not in ups and (other, one) not in self.pairs

    def changes(self, after):
        """All calls of both that are told otherwise, each told by both."""
        return [(call, self.told(call), after.told(call)) for call in self.calls()
                if self.told(call) != after.told(call)]

    def commons(self, one, other):
        both = [low for low in self.words if (low, one) in self.pairs and (low, other) in self.pairs]
        return [low for low in both if not any(low != high and (low, high) in self.pairs for high in both)]

    def common_calls(self, one, other):
        """Those of all calls that have a greatest common kind at each place."""
        calls = product(self.words, repeat=len(one))
        return [call for call in calls
                if all(word in self.commons(*pair) for word, pair in zip(call, zip(one, other)))]

    def strangers(self):
        return [(j, k) for j, one in enumerate(self.deeds) for k, other in enumerate(self.deeds)
                if j < k and not self.within(one, other) and not self.within(other, one)]

    def even(self):
        rows = []
        for one, other in self.strangers():
            for call in self.common_calls(self.deeds[one], self.deeds[other]):
                told = self.told(call)
                if told[0] == "clash":
                    return ("clash", call, told[1], told[2])
                rows.append((one, other, call, told[1]))
        return ("even", rows)

    def clashes(self):
        return [call for call in self.calls() if self.told(call)[0] == "clash"]

    def mend(self):
        """The triples, and the board with all their deeds (of any number)."""
        here, triples = self, []
        while True:
            clashing = here.clashes()
            outermost = [call for call in clashing
                         if not any(call != other and here.within(call, other) for other in clashing)]
            if not outermost:
                return triples, here
            triples.append((outermost[0],) + here.told(outermost[0])[1:])
            here = here.with_deed(outermost[0])

    def rests(self, beginning):
        """What is told behind a beginning, rest by rest."""
        rests = product(self.words, repeat=self.places - len(beginning))
        return [(rest, self.told(beginning + rest)) for rest in rests]

    def row_at(self, place, word):
        return [self.told(call) for call in self.calls() if call[place] == word]

    def beginnings(self, length):
        return list(product(self.words, repeat=length))


def draw_rows(random, number, most_ups=3):
    """A book without rings, told in a drawn order."""
    rows = []
    for k, word in enumerate(ALPHABET[:number]):
        ups = random.sample(ALPHABET[:k], random.randint(0, min(k, most_ups)))
        rows.append((word, tuple(ups)))
    random.shuffle(rows)
    return rows


def draw_own(random, number, places, most_deeds, most_ups=3):
    rows = draw_rows(random, number, most_ups)
    calls = list(product([word for word, ups in rows], repeat=places))
    deeds = random.sample(calls, min(len(calls), random.randint(0, most_deeds)))
    return Own(rows, places, deeds)


def drawn(seed, turns, shapes):
    """So many boards, of one of the shapes (kinds, places, most deeds) each, the same ones each time."""
    random = Random(seed)
    for turn in range(turns):
        number, places, most_deeds = shapes[turn % len(shapes)]
        yield draw_own(random, number, places, most_deeds)


class OwnBook:
    """A book of names as the points tell of it: its boards, each an Own, and what their deeds make."""

    def __init__(self, rows, names):
        self.rows = [(word, tuple(ups)) for word, ups in rows]
        self.words = [word for word, ups in self.rows]
        self.pairs = under_pairs(dict(self.rows))
        self.names = [(word, places, tuple(deeds)) for word, places, deeds in names]
        self.boards = {word: Own(self.rows, places, [call for call, made in deeds])
                       for word, places, deeds in self.names}
        self.makes = {word: [made for call, made in deeds] for word, places, deeds in self.names}

    def made(self):
        return Book(Kinds(self.rows), self.names)

    def below(self, word):
        return [low for low in self.words if (low, word) in self.pairs]

    def is_term(self, length, term):
        return parts(term) <= 40 and depth(term) <= 12 and self.is_plain_term(length, term)

    def is_plain_term(self, length, term):
        if isinstance(term, int):
            return 0 <= term < length
        if not isinstance(term, tuple) or len(term) == 0 or not isinstance(term[0], str):
            return False
        if term[0] not in self.boards or len(term) - 1 != self.boards[term[0]].places:
            return False
        return all(self.is_plain_term(length, part) for part in term[1:])

    def run(self, filling, term, spot=()):
        """Point 37 word by word."""
        if isinstance(term, int):
            return ("kind", filling[term])
        call = ()
        for k, part in enumerate(term[1:]):
            answer = self.run(filling, part, spot + (k,))
            if answer[0] != "kind":
                return answer
            call += (answer[1],)
        told = self.boards[term[0]].told(call)
        if told[0] == "deed":
            return ("kind", self.makes[term[0]][told[1]])
        return (told[0], spot, call) + told[1:]

    def smooth(self):
        for word, board in self.boards.items():
            even = board.even()
            if even[0] == "clash":
                return ("clash", word) + even[1:]
            for one, low in enumerate(board.deeds):
                for other, high in enumerate(board.deeds):
                    made = (self.makes[word][one], self.makes[word][other])
                    if one != other and board.within(low, high) and made not in self.pairs:
                        return ("rough", word, one, other)
        return ("smooth",)

    def nearer(self, filling):
        return list(product(*(self.below(word) for word in filling)))

    def comes(self, filling, term):
        answers = [(low, self.run(low, term)) for low in self.nearer(filling)]
        for low, answer in answers:
            if answer[0] != "kind":
                return ("falls", low, answer)
        made = {answer[1] for low, answer in answers}
        return ("holds", [word for word in self.words if word in made])

    def text(self):
        """Point 41 word by word."""
        rows = []
        for word, ups in self.rows:
            rows.append(f"kind {word} under {' '.join(ups)}" if ups else f"kind {word}")
        for word, places, deeds in self.names:
            rows.append(f"name {word} {places}")
            for call, made in deeds:
                rows.append(f"deed {word} {' '.join(call)} gives {made}")
        return "\n".join(rows)


def parts(term):
    """How many numbers and tuples there are in a term (words left out)."""
    return 1 + sum(parts(part) for part in term[1:]) if isinstance(term, tuple) else 1


def depth(term):
    return 1 + max([depth(part) for part in term[1:]], default=0) if isinstance(term, tuple) else 1


def draw_term(random, book, length, deep):
    """A term of the book, for fillings of this length, at most so deep."""
    if deep == 1 or not book.names or random.random() < 0.3:
        return random.randrange(length)
    word, places, deeds = random.choice(book.names)
    return (word,) + tuple(draw_term(random, book, length, deep - 1) for place in range(places))


def draw_filling(random, book, length):
    return tuple(random.choice(book.words) for thing in range(length))


NAMES = ("meet", "call", "give", "kind", "under", "gives", "with", "a")


def draw_book(random, number, most_names, most_places=2, most_deeds=5):
    rows = draw_rows(random, number)
    words = [word for word, ups in rows]
    names = []
    for name in random.sample(NAMES, random.randint(0, most_names)):
        places = random.randint(1, most_places)
        calls = list(product(words, repeat=places))
        chosen = random.sample(calls, min(len(calls), random.randint(0, most_deeds)))
        names.append((name, places, tuple((call, random.choice(words)) for call in chosen)))
    return OwnBook(rows, names)


def drawn_books(seed, turns, **bounds):
    """So many books of one to five kinds and none to three names, the same ones each time."""
    random = Random(seed)
    for turn in range(turns):
        yield draw_book(random, turn % 5 + 1, 3, **bounds)


SHAPES = ((1, 1, 1), (4, 1, 4), (7, 1, 7), (5, 2, 8), (4, 2, 5), (3, 3, 6), (4, 3, 9), (2, 4, 4), (3, 4, 10),
          (9, 2, 12))
