"""Words, and books of kinds: which kind stands under which."""

from manydeeds.errors import NoKind, Ring, TooMany, Twice

LETTERS = "abcdefghijklmnopqrstuvwxyz"
MOST_LETTERS = 8
MOST_KINDS = 24
MOST_UPS = 8


def is_word(text):
    if not 1 <= len(text) <= MOST_LETTERS:
        return False
    return all([sign in LETTERS for sign in text])


def check_rows(rows):
    if not 1 <= len(rows) <= MOST_KINDS:
        raise TooMany(f"a book has 1 to {MOST_KINDS} kinds")
    seen = {}
    for word, ups in rows:
        if not is_word(word):
            raise NoKind(word)
        if word in seen:
            raise Twice(word)
        if len(ups) > MOST_UPS:
            raise TooMany(f"a kind has at most {MOST_UPS} ups")
        seen[word] = True


def check_ups(ups_of):
    for ups in ups_of.values():
        seen = {}
        for up in ups:
            if up not in ups_of:
                raise NoKind(up)
            if up in seen:
                raise Twice(up)
            seen[up] = True


def first_among(words, others):
    for word in words:
        if word in others:
            return word
    return None


def endless(ups_of):
    # Whatever has no up left can't be in a ring or below one; dropping such
    # kinds over and over leaves just those from which going up never ends.
    left = list(ups_of)
    while True:
        kept = [word for word in left if first_among(ups_of[word], left) is not None]
        if len(kept) == len(left):
            return kept
        left = kept


def find_ring(ups_of):
    left = endless(ups_of)
    if not left:
        return None
    # Each kind that is left has an up that is left, so the way must come back to itself.
    way = []
    here = left[0]
    while here not in way:
        way.append(here)
        here = first_among(ups_of[here], left)
    return way[way.index(here):]


def all_above(ups_of, word):
    # Each kind is gone through once, however many ways lead up to it.
    found = {word: True}
    waiting = [word]
    while waiting:
        here = waiting.pop()
        for up in ups_of[here]:
            if up not in found:
                found[up] = True
                waiting.append(up)
    return found


class Kinds:
    def __init__(self, rows):
        check_rows(rows)
        ups_of = {}
        for word, ups in rows:
            ups_of[word] = tuple(ups)
        check_ups(ups_of)
        ring = find_ring(ups_of)
        if ring is not None:
            raise Ring(ring)
        above_of = {}
        for word in ups_of:
            above_of[word] = all_above(ups_of, word)
        self.ups_of = ups_of
        self.above_of = above_of

    def has(self, word):
        return word in self.ups_of

    def check(self, word):
        if not self.has(word):
            raise NoKind(word)

    def words(self):
        return list(self.ups_of)

    def rows(self):
        return list(self.ups_of.items())

    def ups(self, word):
        self.check(word)
        return list(self.ups_of[word])

    def under(self, one, other):
        self.check(one)
        self.check(other)
        return other in self.above_of[one]

    def beneath(self, one, other):
        return self.under(one, other) and one != other

    def above(self, word):
        self.check(word)
        return [high for high in self.ups_of if high in self.above_of[word]]

    def below(self, word):
        self.check(word)
        return [low for low in self.ups_of if word in self.above_of[low]]

    def more(self, word, ups):
        rows = self.rows()
        rows.append((word, ups))
        return Kinds(rows)

    def tied(self, one, other):
        self.check(one)
        self.check(other)
        rows = []
        for word, ups in self.ups_of.items():
            rows.append((word, ups + (other,) if word == one else ups))
        return Kinds(rows)
