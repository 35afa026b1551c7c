"""The refusals: each a class of its own, straight under DeedError."""


class DeedError(ValueError):
    pass


class NoKind(DeedError):
    def __init__(self, word):
        DeedError.__init__(self, f"{word!r} is no kind")
        self.word = word


class Twice(DeedError):
    def __init__(self, word):
        DeedError.__init__(self, f"{word!r} is told twice")
        self.word = word


class NoName(DeedError):
    def __init__(self, word):
        DeedError.__init__(self, f"{word!r} is no name")
        self.word = word


class Ring(DeedError):
    def __init__(self, ring):
        DeedError.__init__(self, f"kinds stand in a ring: {ring!r}")
        # A copy, so that whoever handed the list in can't change the refusal.
        self.ring = list(ring)


class NoDeed(DeedError):
    def __init__(self, number):
        DeedError.__init__(self, f"deed {number} stands on no call")
        self.number = number


class Same(DeedError):
    def __init__(self, number):
        DeedError.__init__(self, f"deed {number} stands on the kinds of a deed ahead")
        self.number = number


class NoText(DeedError):
    def __init__(self, row):
        DeedError.__init__(self, f"row {row} can't be read")
        self.row = row


class TooMany(DeedError):
    pass


class NoBoard(DeedError):
    pass


class NoCall(DeedError):
    pass


class NoLine(DeedError):
    pass


class NoPlace(DeedError):
    pass


class NoWeights(DeedError):
    pass


class NoTerm(DeedError):
    pass


class NoRow(DeedError):
    pass
