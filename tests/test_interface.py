"""The interface: names, arguments, and where each name is defined."""

import inspect
import unittest

from keptpairs import books, changes, errors, judging, pairs, pricing, programs, tables

CLASSES = {
    errors: ["OrderError", "InvalidPair", "InvalidBook", "InvalidProgram", "UnknownName", "NotALine", "InvalidRow",
             "Mismatch", "InvalidPrice", "NotKept", "LetBy"],
    pairs: ["Pairs"],
    books: ["Book"],
    tables: ["Table"],
    judging: ["Witness"],
    changes: ["Surrounding"],
}

FUNCTIONS = {
    programs: ["check_program"],
    tables: ["identity"],
    judging: ["lost", "must_keep", "judge", "compare", "require"],
    pricing: ["price", "needless", "cheapest"],
    changes: ["exchange", "drop_read", "drop_write", "forward", "drop_fence"],
}

SIGNATURES = [
    (programs.check_program, "(program)"),
    (pairs.Pairs, "(pairs=())"),
    (pairs.Pairs.product, "(firsts, seconds)"),
    (books.Book, "(kept, *, fences=None, early=False, coherent=True)"),
    (books.Book.keeps, "(self, first, second, *, between=())"),
    (books.Book.ordered, "(self, thread, first, second)"),
    (books.Book.lines, "(self, program)"),
    (books.Book.run, "(self, program, line)"),
    (books.Book.outcomes, "(self, program)"),
    (books.Book.sequential, "()"),
    (books.Book.buffered, "()"),
    (books.Book.relaxed, "()"),
    (tables.Table, "(source, target)"),
    (tables.Table.connects, "(self, names)"),
    (tables.Table.then, "(self, second)"),
    (tables.identity, "(source, target, *, names=None)"),
    (judging.lost, "(table)"),
    (judging.must_keep, "(table, step)"),
    (judging.judge, "(table)"),
    (judging.compare, "(weaker, stronger, *, names=None)"),
    (judging.require, "(table)"),
    (pricing.price, "(table, prices)"),
    (pricing.needless, "(table)"),
    (pricing.cheapest, "(source, target, prices, *, names)"),
    (changes.exchange, "(book, first, second, *, same_cell=False)"),
    (changes.drop_read, "(book, first, second)"),
    (changes.drop_write, "(book, first, second)"),
    (changes.forward, "(book, write, read)"),
    (changes.drop_fence, "(book, stays, dropped)"),
]

METHODS = {
    pairs.Pairs: ["__init__", "__contains__", "__len__", "__eq__", "__le__", "__and__", "__or__", "__sub__",
                  "__iter__", "product"],
    books.Book: ["__init__", "names", "keeps", "ordered", "lines", "run", "outcomes", "__contains__", "sequential",
                 "buffered", "relaxed"],
    tables.Table: ["__init__", "__getitem__", "__setitem__", "__iter__", "__call__", "__ior__", "connects", "then"],
    judging.Witness: ["__init__"],
    changes.Surrounding: ["__init__"],
}


class InterfaceTest(unittest.TestCase):

    def test_classes_and_functions_are_defined_in_their_files(self):
        for module, names in CLASSES.items():
            for name in names:
                self.assertTrue(inspect.isclass(getattr(module, name)))
                self.assertEqual(getattr(module, name).__module__, module.__name__)
        for module, names in FUNCTIONS.items():
            for name in names:
                self.assertTrue(inspect.isfunction(getattr(module, name)))
                self.assertEqual(getattr(module, name).__module__, module.__name__)

    def test_arguments(self):
        for item, expected in SIGNATURES:
            with self.subTest(item):
                self.assertEqual(str(inspect.signature(item)), expected)

    def test_each_method_stands_in_its_class(self):
        for owner, names in METHODS.items():
            for name in names:
                self.assertIn(name, vars(owner))

    def test_static_methods_and_the_property(self):
        self.assertIsInstance(vars(pairs.Pairs)["product"], staticmethod)
        for name in ("sequential", "buffered", "relaxed"):
            self.assertIsInstance(vars(books.Book)[name], staticmethod)
        self.assertIsInstance(vars(books.Book)["names"], property)

    def test_lines_is_a_generator(self):
        self.assertTrue(inspect.isgeneratorfunction(books.Book.lines))

    def test_fields(self):
        table = tables.identity(books.Book.sequential(), books.Book.buffered())
        self.assertIs(type(table.source), books.Book)
        self.assertIs(type(table.target), books.Book)
        witness = judging.judge(table)
        self.assertEqual(sorted(vars(witness)), ["line", "outcome", "program", "step"])
        found = changes.exchange(books.Book.sequential(), "read", "write")
        self.assertEqual(sorted(vars(found)), ["changed", "index", "line", "outcome", "program"])
        self.assertIs(type(found.index), int)
