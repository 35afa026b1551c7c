"""Houses: calls that are kept with their nearest deeds, while deeds, kinds and ties come in."""

from manydeeds.calls import nearest, nearest_with, told_of, within
from manydeeds.changes import has_under


def told_apart(old_of, new_of):
    triples = [(call, told_of(near), told_of(new_of[call])) for call, near in old_of.items()]
    return [triple for triple in triples if triple[1] != triple[2]]


class House:
    def __init__(self, board):
        self.current = board
        self.near_of = {}
        self.looks = 0

    def board(self):
        return self.current

    def asked(self):
        return list(self.near_of)

    def looked(self):
        return self.looks

    def ask(self, call):
        if call not in self.near_of:
            self.near_of[call] = nearest(self.current, call)
            self.looks = self.looks + 1
        return told_of(self.near_of[call])

    def deed(self, call):
        greater = self.current.more(call)
        kinds = greater.kinds()
        deeds = greater.deeds()
        moved = {}
        for kept, near in self.near_of.items():
            fits = within(kinds, kept, call)
            moved[kept] = nearest_with(kinds, deeds, near, len(deeds) - 1) if fits else near
        return self.move(greater, moved)

    def kind(self, word, ups):
        # Kinds told so far keep all that stands above them, and so their calls all that is told.
        return self.move(self.current.over(self.current.kinds().more(word, ups)), self.near_of)

    def tie(self, one, other):
        kinds = self.current.kinds().tied(one, other)
        greater = self.current.over(kinds)
        touched = [call for call in self.near_of if has_under(kinds, call, one)]
        moved = dict(self.near_of)
        for call in touched:
            moved[call] = nearest(greater, call)
        self.looks = self.looks + len(touched)
        return self.move(greater, moved)

    def move(self, board, moved):
        triples = told_apart(self.near_of, moved)
        self.current = board
        self.near_of = moved
        return triples
