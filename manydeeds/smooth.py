"""Smooth books: whether terms that run go on to run with nearer kinds."""

from manydeeds.boards import one_of_each
from manydeeds.calls import within
from manydeeds.errors import TooMany
from manydeeds.evens import even
from manydeeds.terms import check_term, run_part

MOST_NEARER = 512


def is_rough(kinds, low, high, made_low, made_high):
    return within(kinds, low, high) and not kinds.under(made_low, made_high)


def first_rough(board, makes):
    kinds = board.kinds()
    deeds = board.deeds()
    for one, low in enumerate(deeds):
        for other, high in enumerate(deeds):
            if is_rough(kinds, low, high, makes[one], makes[other]):
                return (one, other)
    return None


def first_fault(book, word):
    board = book.board(word)
    answer = even(board)
    if answer[0] == "clash":
        return ("clash", word) + answer[1:]
    pair = first_rough(board, book.makes(word))
    return None if pair is None else ("rough", word) + pair


def smooth(book):
    # A large board is refused even behind a name of which something could be told.
    for word in book.words():
        book.board(word).check_size()
    for word in book.words():
        fault = first_fault(book, word)
        if fault is not None:
            return fault
    return ("smooth",)


def check_nearer(rows):
    number = 1
    for row in rows:
        number = number * len(row)
    if number > MOST_NEARER:
        raise TooMany(f"there are more than {MOST_NEARER} nearer fillings")


def comes(book, filling, term):
    check_term(book, filling, term)
    kinds = book.kinds()
    rows = [kinds.below(word) for word in filling]
    check_nearer(rows)
    made = {}
    for nearer in one_of_each(rows):
        answer = run_part(book, nearer, term, ())
        if answer[0] != "kind":
            return ("falls", nearer, answer)
        made[answer[1]] = True
    return ("holds", [word for word in kinds.words() if word in made])
