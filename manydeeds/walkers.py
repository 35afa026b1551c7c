"""Walkers: what is told, found by going through the kinds of a call one after another."""

from manydeeds.boards import is_call, one_of_each
from manydeeds.calls import all_told, check_call, told
from manydeeds.errors import NoCall
from manydeeds.firsts import number_firsts


def cut(numbers, length):
    return [tuple(numbers[start:start + length]) for start in range(0, len(numbers), length)]


def walker(board):
    # From the last place back: beginnings come to one state just where, by each
    # kind, they go on to the same one, so a state's own numbers tell it.
    answers = list(all_told(board).values())
    number_of = number_firsts(answers)
    ends = list(number_of)
    numbers = [number_of[answer] for answer in answers]
    steps = []
    for place in range(board.places()):
        rows = cut(numbers, len(board.kinds().words()))
        number_of = number_firsts(rows)
        steps.insert(0, [list(row) for row in number_of])
        numbers = [number_of[row] for row in rows]
    return (steps, ends)


def answer_by(words, steps, ends, call):
    number = 0
    for states, word in zip(steps, call):
        if not 0 <= number < len(states) or len(states[number]) != len(words):
            return None
        number = states[number][words.index(word)]
    return ends[number] if 0 <= number < len(ends) else None


def by_walker(kinds, walker, call):
    check_call(kinds, len(walker[0]), call)
    return answer_by(kinds.words(), walker[0], walker[1], call)


def is_walker(board, walker):
    answers = all_told(board)
    words = board.kinds().words()
    if len(walker[0]) != board.places():
        return False
    return all([answer_by(words, walker[0], walker[1], call) == answer for call, answer in answers.items()])


def check_beginnings(board, one, other):
    kinds = board.kinds()
    length = len(one)
    if length > board.places() or not is_call(kinds, length, one) or not is_call(kinds, length, other):
        raise NoCall(f"{one!r} and {other!r} are no two beginnings of one length")


def parting_rest(board, one, other):
    check_beginnings(board, one, other)
    board.check_size()
    for rest in one_of_each([board.kinds().words()] * (board.places() - len(one))):
        if told(board, one + rest) != told(board, other + rest):
            return rest
    return None
