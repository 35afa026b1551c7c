"""The desk: a book of names that is told of in rows, and asked in rows."""

from manydeeds.boards import is_call
from manydeeds.books import Book
from manydeeds.calls import nexts, told
from manydeeds.errors import NoRow
from manydeeds.evens import even
from manydeeds.forms import are_words, deed_of, is_deed_row, is_kind_row, is_name_row, kind_of, name_of
from manydeeds.kinds import Kinds
from manydeeds.mends import mend
from manydeeds.smooth import smooth
from manydeeds.terms import run
from manydeeds.texts import book_rows, read_term

RUN = "run "
WITH = " with "


def is_tie_row(words):
    return len(words) == 3 and words[0] == "tie" and are_words(words)


def is_telling(words):
    return is_kind_row(words) or is_tie_row(words) or is_name_row(words) or is_deed_row(words)


def is_asking(words):
    if words[0] in ("smooth", "show"):
        return len(words) == 1
    if words[0] in ("even", "mend"):
        return len(words) == 2 and are_words(words)
    return words[0] in ("ask", "next") and len(words) > 2 and are_words(words)


def is_running(row):
    spot = row.find(WITH)
    return row.startswith(RUN) and spot > len(RUN) and are_words(row[spot + len(WITH):].split(" "))


def check_row(row):
    words = row.split(" ")
    if row != "back" and not is_telling(words) and not is_asking(words) and not is_running(row):
        raise NoRow(f"{row!r} is no row of a desk")


def with_deed(book, word, deed):
    book.check_name(word)
    names = []
    for name, places, deeds in book.names():
        names.append((name, places, deeds + (deed,) if name == word else deeds))
    return Book(book.kinds(), names)


def with_row(book, words):
    kinds = book.kinds()
    if words[0] == "deed":
        return with_deed(book, words[1], deed_of(words))
    if words[0] == "name":
        return Book(kinds, book.names() + [name_of(words) + ((),)])
    if words[0] == "tie":
        return Book(kinds.tied(words[1], words[2]), book.names())
    pair = kind_of(words)
    return Book(kinds.more(pair[0], pair[1]), book.names())


def thing_text(thing):
    return " ".join(thing) if isinstance(thing, tuple) else str(thing)


def row_text(things):
    return " ".join([thing_text(thing) for thing in things])


def ask_text(book, word, call):
    return row_text(told(book.board(word), call))


def next_text(board, call):
    pair = nexts(board, call)
    return row_text(pair[0] + list(pair[1]))


def even_text(board):
    answer = even(board)
    return "even" if answer[0] == "even" else row_text(answer)


def spot_text(spot):
    return ".".join([str(number) for number in spot]) if spot else "-"


def run_text(book, row):
    spot = row.find(WITH)
    term = read_term(row[len(RUN):spot])
    answer = run(book, row[spot + len(WITH):].split(" "), term)
    if answer[0] == "kind":
        return row_text(answer)
    return row_text((answer[0], spot_text(answer[1])) + answer[2:])


def asked_of_book(book, words):
    if words[0] == "show":
        return book_rows(book)
    if words[0] == "smooth":
        return [row_text(smooth(book))]
    board = book.board(words[1])
    if words[0] == "next":
        return [next_text(board, tuple(words[2:]))]
    if words[0] == "even":
        return [even_text(board)]
    return [row_text(triple) for triple in mend(board)]


def still_asked(book, pair):
    if pair[0] not in book.words():
        return False
    return is_call(book.kinds(), book.board(pair[0]).places(), pair[1])


class Desk:
    def __init__(self):
        self.now = Book(Kinds([("thing", ())]), ())
        self.past = []
        self.texts = {}

    def say(self, row):
        check_row(row)
        words = row.split(" ")
        if row == "back":
            return self.back()
        if words[0] == "run":
            return [run_text(self.now, row)]
        if words[0] == "ask":
            return [self.ask(words[1], tuple(words[2:]))]
        if is_asking(words):
            return asked_of_book(self.now, words)
        greater = with_row(self.now, words)
        self.past.append(self.now)
        return self.move(greater)

    def ask(self, word, call):
        # Kept only where it is not refused.
        text = ask_text(self.now, word, call)
        self.texts[(word, call)] = text
        return text

    def back(self):
        if not self.past:
            raise NoRow("no row stands that could be taken back")
        book = self.past.pop()
        kept = {}
        for pair, text in self.texts.items():
            if still_asked(book, pair):
                kept[pair] = text
        self.texts = kept
        return self.move(book)

    def move(self, book):
        rows = ["ok"]
        moved = {}
        for pair, before in self.texts.items():
            after = ask_text(book, pair[0], pair[1])
            moved[pair] = after
            if before != after:
                asked = row_text(pair)
                rows.append(f"{asked}: {before} -> {after}")
        self.now = book
        self.texts = moved
        return rows
