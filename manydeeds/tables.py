"""Tables: the classes of kinds at a place, and what is told by them alone."""

from manydeeds.calls import all_told, check_call, told
from manydeeds.errors import NoPlace
from manydeeds.firsts import number_firsts


def check_place(board, place):
    places = board.places()
    if not 0 <= place < places:
        raise NoPlace(f"{place} is no place of {places}")


def classes_by(answers, words, place):
    rows = {}
    for word in words:
        rows[word] = []
    for call, answer in answers.items():
        rows[call[place]].append(answer)
    # All rows go through the same rests in the same order, so rows that are alike make a class.
    kept = [tuple(rows[word]) for word in words]
    number_of = number_firsts(kept)
    return [number_of[row] for row in kept]


def classes(board, place):
    check_place(board, place)
    return classes_by(all_told(board), board.kinds().words(), place)


def parting_call(board, place, one, other):
    check_place(board, place)
    board.kinds().check(one)
    board.kinds().check(other)
    for call in board.calls():
        turned = call[:place] + (other,) + call[place + 1:]
        if call[place] == one and told(board, call) != told(board, turned):
            return call
    return None


def cell_of(words, maps, call):
    return tuple([numbers[words.index(word)] for numbers, word in zip(maps, call)])


def table(board):
    answers = all_told(board)
    words = board.kinds().words()
    maps = [classes_by(answers, words, place) for place in range(board.places())]
    cells = {}
    for call, answer in answers.items():
        cells[cell_of(words, maps, call)] = answer
    return (maps, cells)


def by_table(kinds, table, call):
    check_call(kinds, len(table[0]), call)
    return table[1].get(cell_of(kinds.words(), table[0], call))


def has_lengths(maps, places, number):
    return len(maps) == places and all([len(numbers) == number for numbers in maps])


def is_table(board, table):
    answers = all_told(board)
    words = board.kinds().words()
    if not has_lengths(table[0], board.places(), len(words)):
        return False
    return all([table[1].get(cell_of(words, table[0], call)) == answer for call, answer in answers.items()])
