"""Line-ups of a call: an order of its places and a line for each; how they rank deeds and where they part."""

from manydeeds.calls import check_call, fitting, nexts
from manydeeds.errors import NoLine
from manydeeds.lines import is_line, line_ahead, plain_line


def is_lineup(board, call, lineup):
    kinds = board.kinds()
    places = board.places()
    check_call(kinds, places, call)
    order = lineup[0]
    lines = lineup[1]
    if sorted(order) != list(range(places)) or len(lines) != places:
        return False
    return all([is_line(kinds, word, line) for word, line in zip(call, lines)])


def spots(deed, lineup):
    return [lineup[1][place].index(deed[place]) for place in lineup[0]]


def ranked(board, call, lineup):
    if not is_lineup(board, call, lineup):
        raise NoLine(f"{lineup!r} is no line-up of {call!r}")
    deeds = board.deeds()
    return sorted(fitting(board, call), key=lambda number: spots(deeds[number], lineup))


def taken(board, call, lineup):
    ranks = ranked(board, call, lineup)
    return ranks[0] if ranks else None


def plain_lineup(board, call):
    kinds = board.kinds()
    return (list(range(board.places())), [plain_line(kinds, word) for word in call])


def lineup_against(board, call, one, other):
    # Where the kind of the one does not stand under that of the other, a line-up
    # with this place first, and all under the other's kind ahead, leaves the one behind.
    kinds = board.kinds()
    one_kinds = board.deeds()[one]
    other_kinds = board.deeds()[other]
    places = list(range(board.places()))
    parted = [place for place in places if not kinds.under(one_kinds[place], other_kinds[place])][0]
    order = [parted] + [place for place in places if place != parted]
    lines = [plain_line(kinds, word) for word in call]
    lines[parted] = line_ahead(kinds, call[parted], other_kinds[parted])
    return (order, lines)


def parting(board, call):
    answer = nexts(board, call)
    row = answer[0]
    behind = answer[1]
    if behind == ("none",):
        return None
    plain = plain_lineup(board, call)
    first = ranked(board, call, plain)[len(row)]
    # Both deeds of the clash are nearest there, so the first is not within one that it isn't itself.
    other = behind[2] if behind[1] == first else behind[1]
    return (plain, lineup_against(board, call, first, other))
