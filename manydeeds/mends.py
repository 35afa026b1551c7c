"""The mend of a board: the least deeds with which nothing clashes."""

from manydeeds.boards import MOST_DEEDS
from manydeeds.calls import all_nearest, nearest_with, within
from manydeeds.errors import TooMany


def is_outermost(kinds, call, clashing):
    for other in clashing:
        if other != call and within(kinds, call, other):
            return False
    return True


def first_outermost(kinds, near_of):
    clashing = [call for call, near in near_of.items() if len(near) > 1]
    for call in clashing:
        if is_outermost(kinds, call, clashing):
            return call
    return None


def near_with_last(kinds, deeds, near_of):
    # Only calls within the kinds of the new deed can have other nearest deeds by it.
    last = len(deeds) - 1
    greater = {}
    for call, near in near_of.items():
        fits = within(kinds, call, deeds[last])
        greater[call] = nearest_with(kinds, deeds, near, last) if fits else near
    return greater


def mend(board):
    kinds = board.kinds()
    deeds = board.deeds()
    near_of = all_nearest(board)
    triples = []
    call = first_outermost(kinds, near_of)
    while call is not None:
        if len(deeds) == MOST_DEEDS:
            raise TooMany(f"the mend needs more than {MOST_DEEDS} deeds")
        triples.append((call, near_of[call][0], near_of[call][1]))
        deeds.append(call)
        near_of = near_with_last(kinds, deeds, near_of)
        call = first_outermost(kinds, near_of)
    return triples


def mended(board):
    greater = board
    for call, one, other in mend(board):
        greater = greater.more(call)
    return greater
