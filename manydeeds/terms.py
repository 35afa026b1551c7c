"""Terms over the names of a book: what is one, and what it makes when it is run."""

from manydeeds.calls import told
from manydeeds.errors import NoTerm, TooMany

MOST_THINGS = 12
MOST_PARTS = 40
MOST_DEEP = 12


def is_number(thing):
    return isinstance(thing, int) and not isinstance(thing, bool)


def parts_of(level):
    parts = []
    for part in level:
        if isinstance(part, tuple):
            parts.extend(part[1:])
    return parts


def is_small(term):
    # Gone through level by level, so that what is far too deep is never gone down into.
    level = [term]
    number = 0
    for deep in range(MOST_DEEP):
        number = number + len(level)
        level = parts_of(level)
    return not level and number <= MOST_PARTS


def has_name(book, term):
    if not isinstance(term, tuple) or not term or term[0] not in book.words():
        return False
    return len(term) == book.board(term[0]).places() + 1


def is_sound(book, length, term):
    if is_number(term):
        return 0 <= term < length
    return has_name(book, term) and all([is_sound(book, length, part) for part in term[1:]])


def check_filling(kinds, filling):
    if len(filling) > MOST_THINGS:
        raise TooMany(f"a filling has at most {MOST_THINGS} words")
    for word in filling:
        kinds.check(word)


def is_term(book, filling, term):
    check_filling(book.kinds(), filling)
    return is_small(term) and is_sound(book, len(filling), term)


def check_term(book, filling, term):
    if not is_term(book, filling, term):
        raise NoTerm("this is no term of the book for the filling")


def run_call(book, word, spot, call):
    answer = told(book.board(word), call)
    if answer[0] == "deed":
        return ("kind", book.makes(word)[answer[1]])
    return (answer[0], spot, call) + answer[1:]


def run_part(book, filling, term, spot):
    if is_number(term):
        return ("kind", filling[term])
    made = []
    for number, part in enumerate(term[1:]):
        answer = run_part(book, filling, part, spot + (number,))
        if answer[0] != "kind":
            return answer
        made.append(answer[1])
    return run_call(book, term[0], spot, tuple(made))


def run(book, filling, term):
    check_term(book, filling, term)
    return run_part(book, filling, term, ())
