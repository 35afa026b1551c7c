"""Everything that the document's interface names is there, with its arguments."""

import importlib
import inspect
import unittest

FUNCTIONS = {
    "kinds": ("is_word(text)",),
    "chains": ("chain(kinds, one, other)", "commons(kinds, one, other)"),
    "calls": ("within(kinds, one, other)", "fitting(board, call)", "nearest(board, call)", "told(board, call)",
              "nexts(board, call)"),
    "lines": ("is_line(kinds, word, line)", "line_ahead(kinds, word, other)"),
    "lineups": ("is_lineup(board, call, lineup)", "ranked(board, call, lineup)", "taken(board, call, lineup)",
                "parting(board, call)"),
    "evens": ("common_calls(kinds, one, other)", "even(board)", "clashes(board)"),
    "mends": ("mend(board)", "mended(board)"),
    "tables": ("classes(board, place)", "parting_call(board, place, one, other)", "table(board)",
               "by_table(kinds, table, call)", "is_table(board, table)"),
    "walkers": ("walker(board)", "by_walker(kinds, walker, call)", "is_walker(board, walker)",
                "parting_rest(board, one, other)"),
    "shares": ("shares(board, weights)",),
    "changes": ("by_deed(board, call)", "by_kind(board, word, ups)", "by_tie(board, one, other)"),
    "terms": ("is_term(book, filling, term)", "run(book, filling, term)"),
    "smooth": ("smooth(book)", "comes(book, filling, term)"),
    "texts": ("book_text(book)", "read_book(text)", "term_text(term)", "read_term(text)"),
}
CLASSES = {
    ("kinds", "Kinds(rows)"): ("words()", "rows()", "ups(word)", "under(one, other)", "beneath(one, other)",
                               "above(word)", "below(word)", "more(word, ups)", "tied(one, other)"),
    ("boards", "Board(kinds, places, deeds)"): ("kinds()", "places()", "deeds()", "calls()", "more(call)",
                                                "over(kinds)"),
    ("houses", "House(board)"): ("ask(call)", "deed(call)", "kind(word, ups)", "tie(one, other)", "board()", "asked()",
                                 "looked()"),
    ("books", "Book(kinds, names)"): ("kinds()", "words()", "board(word)", "makes(word)", "names()"),
    ("desk", "Desk()"): ("say(row)",),
}


def named(file, told):
    return getattr(importlib.import_module(f"manydeeds.{file}"), told.split("(")[0])


def arguments(told):
    return [name for name in told.split("(")[1].rstrip(")").split(", ") if name]


class TheInterface(unittest.TestCase):
    def test_functions(self):
        for file, tolds in FUNCTIONS.items():
            for told in tolds:
                self.assertEqual(list(inspect.signature(named(file, told)).parameters), arguments(told), told)

    def test_classes_and_their_methods(self):
        for (file, told), methods in CLASSES.items():
            own = named(file, told)
            self.assertEqual(list(inspect.signature(own).parameters), arguments(told), told)
            for method in methods:
                parameters = inspect.signature(getattr(own, method.split("(")[0])).parameters
                self.assertEqual(list(parameters), ["self"] + arguments(method), method)


if __name__ == "__main__":
    unittest.main()
