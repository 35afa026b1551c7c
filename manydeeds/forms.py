"""The forms of the rows that tell of kinds, names and deeds, as lists of their words."""

from manydeeds.kinds import is_word

FIGURES = ("1", "2", "3", "4")


def are_words(texts):
    return all([is_word(text) for text in texts])


def is_kind_row(words):
    if words[0] != "kind" or not are_words(words[1:]):
        return False
    return len(words) == 2 or (len(words) > 3 and words[2] == "under")


def is_name_row(words):
    return len(words) == 3 and words[0] == "name" and is_word(words[1]) and words[2] in FIGURES


def is_deed_row(words):
    if words[0] != "deed" or len(words) < 5:
        return False
    return words[-2] == "gives" and are_words(words[1:])


def kind_of(words):
    return (words[1], words[3:])


def name_of(words):
    return (words[1], int(words[2]))


def deed_of(words):
    return (tuple(words[2:-2]), words[-1])
