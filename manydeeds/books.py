"""Books of names: for each name a board, and the kinds that its deeds make."""

from manydeeds.boards import Board
from manydeeds.errors import NoKind, NoName, TooMany, Twice
from manydeeds.kinds import is_word

MOST_NAMES = 8


def check_makes(kinds, makes):
    for made in makes:
        if not kinds.has(made):
            raise NoKind(made)


class Book:
    def __init__(self, kinds, names):
        if len(names) > MOST_NAMES:
            raise TooMany(f"a book has at most {MOST_NAMES} names")
        board_of = {}
        made_of = {}
        for word, places, deeds in names:
            if not is_word(word):
                raise NoName(word)
            if word in board_of:
                raise Twice(word)
            board_of[word] = Board(kinds, places, [call for call, made in deeds])
            made_of[word] = [made for call, made in deeds]
            check_makes(kinds, made_of[word])
        self.book = kinds
        self.board_of = board_of
        self.made_of = made_of

    def check_name(self, word):
        if word not in self.board_of:
            raise NoName(word)

    def kinds(self):
        return self.book

    def words(self):
        return list(self.board_of)

    def board(self, word):
        self.check_name(word)
        return self.board_of[word]

    def makes(self, word):
        self.check_name(word)
        return list(self.made_of[word])

    def names(self):
        triples = []
        for word, board in self.board_of.items():
            deeds = tuple(zip(board.deeds(), self.made_of[word]))
            triples.append((word, board.places(), deeds))
        return triples
