"""Chains of kinds, and the greatest common kinds of two."""


def chain(kinds, one, other):
    if not kinds.under(one, other):
        return None
    way = [one]
    while way[-1] != other:
        way.append(up_towards(kinds, way[-1], other))
    return way


def up_towards(kinds, word, goal):
    # A kind beneath the goal has an up under it, so going up needs no turning back.
    return [up for up in kinds.ups(word) if kinds.under(up, goal)][0]


def commons(kinds, one, other):
    below_one = kinds.below(one)
    below_other = kinds.below(other)
    shared = [word for word in below_one if word in below_other]
    return [word for word in shared if not beneath_any(kinds, word, shared)]


def beneath_any(kinds, word, others):
    return any([kinds.beneath(word, other) for other in others])
