"""Changes: just where one more deed, kind or tie changes what is told."""

from manydeeds.calls import told, within


def told_otherwise(before, after, calls):
    triples = [(call, told(before, call), told(after, call)) for call in calls]
    return [triple for triple in triples if triple[1] != triple[2]]


def has_under(kinds, call, high):
    return any([kinds.under(word, high) for word in call])


def by_deed(board, call):
    greater = board.more(call)
    kinds = board.kinds()
    return told_otherwise(board, greater, [low for low in board.calls() if within(kinds, low, call)])


def by_kind(board, word, ups):
    greater = board.over(board.kinds().more(word, ups))
    return [(call, told(greater, call)) for call in greater.calls() if word in call]


def by_tie(board, one, other):
    kinds = board.kinds()
    greater = board.over(kinds.tied(one, other))
    # Whatever stands above a kind that is not under the one stands there with the tie as without it.
    return told_otherwise(board, greater, [call for call in board.calls() if has_under(kinds, call, one)])
