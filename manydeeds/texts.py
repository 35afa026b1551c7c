"""Texts of books and terms: how they are written, and how they are read."""

from manydeeds.books import Book
from manydeeds.errors import NoTerm, NoText
from manydeeds.forms import deed_of, is_deed_row, is_kind_row, is_name_row, kind_of, name_of
from manydeeds.kinds import Kinds, is_word
from manydeeds.terms import MOST_DEEP, is_number, is_small

DIGITS = "0123456789"


def kind_row(word, ups):
    words = ["kind", word]
    if ups:
        words = words + ["under"] + list(ups)
    return " ".join(words)


def deed_row(word, call, made):
    return " ".join(["deed", word] + list(call) + ["gives", made])


def book_rows(book):
    rows = [kind_row(word, ups) for word, ups in book.kinds().rows()]
    for word, places, deeds in book.names():
        rows.append(f"name {word} {places}")
        rows.extend([deed_row(word, call, made) for call, made in deeds])
    return rows


def book_text(book):
    return "\n".join(book_rows(book))


def first_named(names, word):
    for name in names:
        if name[0] == word:
            return name
    return None


def take_deed(names, words):
    name = first_named(names, words[1])
    deed = deed_of(words)
    if name is None or len(deed[0]) != name[1]:
        return False
    name[2].append(deed)
    return True


def take_row(rows, names, words):
    # Says whether the row may stand behind those that were taken ahead of it.
    if is_kind_row(words):
        rows.append(kind_of(words))
        return not names
    if is_name_row(words):
        names.append(name_of(words) + ([],))
        return len(rows) > 0
    return is_deed_row(words) and take_deed(names, words)


def read_book(text):
    rows = []
    names = []
    for number, row in enumerate(text.split("\n"), start=1):
        if not take_row(rows, names, row.split(" ")):
            raise NoText(number)
    return Book(Kinds(rows), names)


def term_text(term):
    if is_number(term):
        return str(term)
    word = term[0]
    parts = ", ".join([term_text(part) for part in term[1:]])
    return f"{word}({parts})"


def is_figures(text):
    if not 1 <= len(text) <= 2 or not all([sign in DIGITS for sign in text]):
        return False
    return len(text) == 1 or text[0] != "0"


def split_parts(text):
    # A comma and a blank within brackets part what stands within these, not this text.
    starts = [0]
    depth = 0
    for spot, sign in enumerate(text):
        if sign == "(":
            depth = depth + 1
        elif sign == ")":
            depth = depth - 1
        elif depth == 0 and text[spot:spot + 2] == ", ":
            starts.append(spot + 2)
    ends = [start - 2 for start in starts[1:]] + [len(text)]
    return [text[start:end] for start, end in zip(starts, ends)]


def read_part(text, deep):
    if deep > MOST_DEEP:
        raise NoTerm(f"a term is at most {MOST_DEEP} deep")
    if is_figures(text):
        return int(text)
    spot = text.find("(")
    if spot < 0 or not is_word(text[:spot]) or text[-1] != ")":
        raise NoTerm(f"{text!r} is no text of a term")
    parts = [read_part(part, deep + 1) for part in split_parts(text[spot + 1:-1])]
    return (text[:spot],) + tuple(parts)


def read_term(text):
    term = read_part(text, 1)
    if not is_small(term):
        raise NoTerm("the term has too many parts")
    return term
