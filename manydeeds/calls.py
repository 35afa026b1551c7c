"""Calls: which deeds of a board fit one, which are nearest, and what is told at it."""

from manydeeds.boards import is_call
from manydeeds.errors import NoCall


def check_call(kinds, places, call):
    if not is_call(kinds, places, call):
        raise NoCall(f"{call!r} is no call for {places} places")


def within(kinds, one, other):
    for low, high in zip(one, other):
        if not kinds.under(low, high):
            return False
    return True


def fitting(board, call):
    kinds = board.kinds()
    check_call(kinds, board.places(), call)
    return [number for number, deed in enumerate(board.deeds()) if within(kinds, call, deed)]


def nearest_with(kinds, deeds, near, number):
    # Whatever fits is no nearer than one of the nearest, so it is enough to hold
    # one more deed against these.
    if any([within(kinds, deeds[kept], deeds[number]) for kept in near]):
        return near
    return [kept for kept in near if not within(kinds, deeds[number], deeds[kept])] + [number]


def nearest_among(board, numbers):
    kinds = board.kinds()
    deeds = board.deeds()
    near = []
    for number in numbers:
        near = nearest_with(kinds, deeds, near, number)
    return near


def nearest(board, call):
    return nearest_among(board, fitting(board, call))


def told_of(near):
    if not near:
        return ("none",)
    if len(near) == 1:
        return ("deed", near[0])
    return ("clash", near[0], near[1])


def told(board, call):
    return told_of(nearest(board, call))


def nexts(board, call):
    left = fitting(board, call)
    near = nearest_among(board, left)
    row = []
    while len(near) == 1:
        row.append(near[0])
        left.remove(near[0])
        near = nearest_among(board, left)
    return (row, told_of(near))


def all_nearest(board):
    near_of = {}
    for call in board.calls():
        near_of[call] = nearest(board, call)
    return near_of


def all_told(board):
    answers = {}
    for call in board.calls():
        answers[call] = told(board, call)
    return answers
