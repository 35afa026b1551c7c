"""Books of kinds that several tests ask, an own telling of the points, and a count of steps."""

import inspect
import sys
from itertools import combinations

# Told from the bottom up, so that ups stand behind the kinds that name them.
PETS = [
    ("pup", ("dog",)),
    ("dog", ("pet", "beast")),
    ("cat", ("pet", "beast")),
    ("pet", ("thing",)),
    ("beast", ("thing",)),
    ("thing", ()),
    ("stone", ()),
]

ALPHABET = "abcdefghijklmnopqrstuvwx"


def plain_rows(number):
    return [(word, ()) for word in ALPHABET[:number]]


def ladder_rows(number=24):
    """Each kind has the eight ahead of it as ups (fewer at the top): millions of ways up."""
    words = ALPHABET[:number]
    return [(word, tuple(words[max(0, k - 8):k])) for k, word in enumerate(words)]


def books_without_rings(words):
    """Each choice of ups in which a kind has ups from the words ahead of it alone."""
    pairs = list(combinations(range(len(words)), 2))
    for choice in range(2 ** len(pairs)):
        ups = {word: [] for word in words}
        for bit, (high, low) in enumerate(pairs):
            if choice >> bit & 1:
                ups[words[low]].append(words[high])
        yield ups


def under_pairs(ups):
    """All (one, other) with the one under the other, by joining pairs until none is new."""
    pairs = {(word, word) for word in ups}
    pairs |= {(word, up) for word in ups for up in ups[word]}
    while True:
        joined = {(a, d) for a, b in pairs for c, d in pairs if b == c}
        if joined <= pairs:
            return pairs
        pairs |= joined


def has_ring(ups):
    pairs = under_pairs(ups)
    return any((up, word) in pairs for word in ups for up in ups[word])


def is_ring(ring, ups):
    return (isinstance(ring, list) and len(ring) >= 1 and len(set(ring)) == len(ring)
            and all(ring[(k + 1) % len(ring)] in ups[word] for k, word in enumerate(ring)))


class TooLong(Exception):
    """More rows of the program were run than were let."""


def within_steps(most, deed):
    """What deed() gives; TooLong where the program runs more than `most` of its rows for it."""
    count = [0]

    def watch(frame, event, thing):
        if "manydeeds" not in frame.f_globals.get("__name__", ""):
            return None
        if event == "line":
            count[0] += 1
            if count[0] > most:
                raise TooLong(most)
        return watch

    before = sys.gettrace()
    sys.settrace(watch)
    try:
        return deed()
    finally:
        sys.settrace(before)


def within_calls(most, deed):
    """What deed() gives; RecursionError where more than `most` calls stand within one another for it."""
    here = len(inspect.stack(0))
    before = sys.getrecursionlimit()
    sys.setrecursionlimit(here + most)
    try:
        return deed()
    finally:
        sys.setrecursionlimit(before)
