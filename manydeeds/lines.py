"""Lines of a kind: all kinds above it, each ahead of those under which it stands."""

from manydeeds.errors import NoLine


def is_line(kinds, word, line):
    if sorted(line) != sorted(kinds.above(word)):
        return False
    return not any([beneath_one_ahead(kinds, line, spot) for spot in range(len(line))])


def beneath_one_ahead(kinds, line, spot):
    return any([kinds.beneath(line[spot], ahead) for ahead in line[:spot]])


def plain_line(kinds, word):
    # A kind beneath another one has more kinds above it than that one has.
    return sorted(kinds.above(word), key=lambda high: len(kinds.above(high)), reverse=True)


def line_ahead(kinds, word, other):
    if not kinds.under(word, other):
        raise NoLine(f"{word!r} does not stand under {other!r}")
    # Whatever stands under a kind under the other one stands under the other one,
    # too, so both parts may be put one behind the other.
    line = plain_line(kinds, word)
    ahead = [high for high in line if kinds.under(high, other)]
    return ahead + [high for high in line if not kinds.under(high, other)]
