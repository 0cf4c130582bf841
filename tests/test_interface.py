"""Each name of the interface that has landed is defined in its own file, with the arguments as listed."""

import ast
import importlib
import inspect
import pathlib
import unittest

PACKAGE = pathlib.Path(__file__).parent.parent / "anyhalf"
FUNCTIONS = {
    "signs": ("words_of(text)", "spans_of(text)"),
    "languages": ("made_language(levels, rows, pairs)",),
    "rolesof": ("role_of(language, word, have)", "fault_of(language, word, have)"),
    "bonds": ("bond(language, t, u)", "bonds(language)"),
    "apart": ("alike(one, two)", "apart(one, two)"),
    "plainread": ("read_plain(language, words)",),
    "tables": ("root_of(table)", "children(table, i)", "span(table, i)"),
    "walks": ("way(table, i)", "depth_of(table, i)", "over(table, i, j)"),
    "judge": ("form_right(language, words, table)", "table_right(language, words, table)"),
    "saidrows": ("checked_said(language, row)",),
    "saidreads": ("said(language, words, table)", "said_at(language, words, table, i)"),
    "forms": ("plus(language, a, b)", "times(language, a, b)", "on_line(language, line, x)",
              "on_sheet(language, sheet, x, y)", "line_of_line(language, outer, inner)",
              "sheet_left(language, sheet, x)", "sheet_right(language, sheet, y)",
              "left_line(language, sheet, line)", "right_line(language, sheet, line)",
              "line_of_sheet(language, line, sheet)"),
    "halves": ("empty_half(language)", "word_half(language, word)", "many_of(half)"),
    "joins": ("joined(language, one, two)",),
    "closes": ("closed(language, half)",),
    "outlines": ("outline(half, have)", "decided(half, have)"),
    "wraps": ("wrapped(language, half)",),
    "scraps": ("made_scrap(language, text)", "told(scrap)", "words_many(scrap)"),
    "scrapjoins": ("joined_scraps(language, one, two)",),
    "scrapends": ("scrap_half(language, scrap)",),
    "pieces": ("built(language, text)",),
    "glue": ("glued(language, one, two)",),
    "pieceasks": ("text_of(piece)", "shape(piece)", "half_of(language, piece)", "reading(language, piece)"),
    "places": ("place_of(piece, k)", "word_at(piece, sign)"),
    "stretches": ("stretch(language, piece, a, b)",),
    "moved": ("moved(language, text, at, gone, put)",),
    "reckon": ("reckoned(language, size, values, default, forms, kept)",),
    "plainworth": ("worth_plain(language, words, table)",),
    "halfworth": ("worth(language, half)",),
    "slopes": ("slope(language, words, table, i)", "sheet_of(language, words, table, i, j)"),
    "least": ("brackets_least(language, row)",),
    "printed": ("printed(language, row)", "full_words(language, row)"),
    "closetext": ("close_text(words)",),
    "needless": ("needless(language, words)", "slimmed(language, words)"),
    "grafts": ("grafted(language, words, i, row)",),
    "demands": ("made_roles(rows, pairs)", "demands(rows, pairs, lesson)"),
    "lessons": ("taught(rows, pairs, lessons)",),
    "rings": ("ring_right(rows, pairs, lessons, paper)",),
    "bookasks": ("fault(book)", "table(book)", "said_of(book)", "least_of(book)", "worth_of(book)", "missing(book)",
                 "stretch_of(book, a, b)", "place(book, k)", "word_at_of(book, sign)", "cut(book, at)",
                 "put_together(one, two)"),
    "handasks": ("reading_of(hands)", "fault_of_hands(hands)", "readable(hands)"),
    "languagetext": ("language_text(language)", "language_of(text)"),
    "saidtext": ("said_text(language, row)", "said_of_text(language, text)"),
    "tabletext": ("table_text(table)", "table_of(text)"),
    "papertext": ("paper_text(paper)", "paper_of(text)"),
    "desk": ("answer(book, row)",),
    "parting": ("parted(language, piece, at)", "replaced(language, piece, at, gone, text)"),
}
CLASSES = {
    "errors": ("Refused", "BadLevel", "BadRow", "BadPair", "BadText", "BadWord", "BadPlace", "BadNumber", "BadValue",
               "BadForm", "BadKept", "BadSaid", "BadLesson", "BadHand", "BadLine", "TooMany", "Unlike", "NoSuch",
               "NoReading", "NoWorth", "NothingToUndo", "NothingToRedo"),
    "languages": ("Language",),
    "halves": ("Half",),
    "scraps": ("Scrap",),
    "pieces": ("Piece",),
    "book": ("Book",),
    "hands": ("Hands",),
}
METHODS = {
    ("book", "Book"): ("__init__(self, language, text)", "put(self, at, gone, text)", "undo(self)", "redo(self)",
                       "text(self)", "reading(self)", "made(self)", "high(self)", "shape(self)"),
    ("hands", "Hands"): ("__init__(self, language, texts)", "put(self, hand, at, gone, text)", "undo(self, hand)",
                         "redo(self, hand)", "hand_on(self, hand, many)", "text_of(self, hand)", "half(self, hand)",
                         "whole(self)"),
}


class InterfaceTest(unittest.TestCase):
    def defined(self, file, kind):
        tree = ast.parse((PACKAGE / (file + ".py")).read_text(encoding="utf-8"))
        return [node.name for node in tree.body if isinstance(node, kind)]

    def test_functions(self):
        for file, signatures in FUNCTIONS.items():
            module = importlib.import_module("anyhalf." + file)
            for signature in signatures:
                name = signature.partition("(")[0]
                self.assertIn(name, self.defined(file, ast.FunctionDef))
                self.assertEqual(name + str(inspect.signature(getattr(module, name))), signature)

    def test_classes(self):
        for file, names in CLASSES.items():
            for name in names:
                self.assertIn(name, self.defined(file, ast.ClassDef))

    def test_methods_stand_in_the_class_itself(self):
        for (file, name), signatures in METHODS.items():
            found = getattr(importlib.import_module("anyhalf." + file), name)
            for signature in signatures:
                method = signature.partition("(")[0]
                self.assertIn(method, vars(found))
                self.assertEqual(method + str(inspect.signature(vars(found)[method])), signature)

    def test_all_files_of_the_interface(self):
        files = set(FUNCTIONS) | set(CLASSES)
        self.assertEqual(len(files), 49)
