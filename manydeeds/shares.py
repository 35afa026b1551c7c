"""Shares: what weighs how much, of all that a board tells."""

from manydeeds.calls import all_told
from manydeeds.errors import NoWeights


def check_weights(kinds, weights):
    number = len(kinds.words())
    if len(weights) != number or any([weight < 0 for weight in weights]):
        raise NoWeights(f"weights are {number} whole numbers from 0 on")


def weight_by(weight_of, call):
    product = 1
    for word in call:
        product = product * weight_of[word]
    return product


def shares(board, weights):
    check_weights(board.kinds(), weights)
    weight_of = dict(zip(board.kinds().words(), weights))
    sums = {}
    for call, answer in all_told(board).items():
        sums[answer] = sums.get(answer, 0) + weight_by(weight_of, call)
    return list(sums.items())
