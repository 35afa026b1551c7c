"""Whether a board is even, told by its deeds two by two, and all its clashes."""

from manydeeds.boards import one_of_each
from manydeeds.calls import all_told, told, within
from manydeeds.chains import commons


def common_calls(kinds, one, other):
    return one_of_each([commons(kinds, first, second) for first, second in zip(one, other)])


def are_strangers(kinds, one, other):
    return not within(kinds, one, other) and not within(kinds, other, one)


def strangers(board):
    kinds = board.kinds()
    deeds = board.deeds()
    pairs = []
    for one in range(len(deeds)):
        pairs.extend([(one, other) for other in range(one + 1, len(deeds))
                      if are_strangers(kinds, deeds[one], deeds[other])])
    return pairs


def even(board):
    board.check_size()
    deeds = board.deeds()
    # Many strangers meet at the same calls, and each of these is looked at once.
    known = {}
    rows = []
    for one, other in strangers(board):
        for call in common_calls(board.kinds(), deeds[one], deeds[other]):
            if call not in known:
                known[call] = told(board, call)
            answer = known[call]
            if answer[0] == "clash":
                return ("clash", call, answer[1], answer[2])
            rows.append((one, other, call, answer[1]))
    return ("even", rows)


def clashes(board):
    return [call for call, answer in all_told(board).items() if answer[0] == "clash"]
