"""Numbers for unlike things, in the order in which they first come."""


def number_firsts(things):
    number_of = {}
    for thing in things:
        if thing not in number_of:
            number_of[thing] = len(number_of)
    return number_of
