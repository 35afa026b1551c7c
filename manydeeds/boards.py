"""Boards: deeds told by the kinds that they stand on, and the calls of a board."""

from manydeeds.errors import NoBoard, NoDeed, Same, TooMany

MOST_PLACES = 4
MOST_DEEDS = 64
MOST_CALLS = 512


def is_call(kinds, places, call):
    return len(call) == places and all([kinds.has(word) for word in call])


def one_of_each(rows):
    # The first place turns slowest, so that what comes is in the order of the calls of a board.
    found = [()]
    for row in rows:
        longer = []
        for start in found:
            longer.extend([start + (thing,) for thing in row])
        found = longer
    return found


def check_deeds(kinds, places, deeds):
    seen = {}
    for number, call in enumerate(deeds):
        if not is_call(kinds, places, call):
            raise NoDeed(number)
        if call in seen:
            raise Same(number)
        seen[call] = True


class Board:
    def __init__(self, kinds, places, deeds):
        if not 1 <= places <= MOST_PLACES:
            raise NoBoard(f"a board has 1 to {MOST_PLACES} places")
        if len(deeds) > MOST_DEEDS:
            raise NoBoard(f"a board has at most {MOST_DEEDS} deeds")
        check_deeds(kinds, places, deeds)
        self.book = kinds
        self.width = places
        self.stands = tuple(deeds)

    def kinds(self):
        return self.book

    def places(self):
        return self.width

    def deeds(self):
        return list(self.stands)

    def calls(self):
        self.check_size()
        return one_of_each([self.book.words()] * self.width)

    def check_size(self):
        number = 1
        for place in range(self.width):
            number = number * len(self.book.words())
        if number > MOST_CALLS:
            raise TooMany(f"the board has more than {MOST_CALLS} calls")

    def more(self, call):
        return Board(self.book, self.width, self.stands + (call,))

    def over(self, kinds):
        return Board(kinds, self.width, self.stands)
