"""The interface: names, arguments, and where each name is defined."""

import inspect
import unittest

from keptpairs import books, errors, pairs, programs

CLASSES = {
    errors: ["OrderError", "InvalidPair", "InvalidBook", "InvalidProgram", "UnknownName", "NotALine", "InvalidRow",
             "Mismatch", "InvalidPrice", "NotKept", "LetBy"],
    pairs: ["Pairs"],
    books: ["Book"],
}

SIGNATURES = [
    (programs.check_program, "(program)"),
    (pairs.Pairs, "(pairs=())"),
    (pairs.Pairs.product, "(firsts, seconds)"),
    (books.Book, "(kept, *, fences=None, early=False, coherent=True)"),
    (books.Book.keeps, "(self, first, second, *, between=())"),
    (books.Book.ordered, "(self, thread, first, second)"),
    (books.Book.lines, "(self, program)"),
    (books.Book.run, "(self, program, line)"),
    (books.Book.outcomes, "(self, program)"),
    (books.Book.sequential, "()"),
    (books.Book.buffered, "()"),
    (books.Book.relaxed, "()"),
]

METHODS = {
    pairs.Pairs: ["__init__", "__contains__", "__len__", "__eq__", "__le__", "__and__", "__or__", "__sub__",
                  "__iter__", "product"],
    books.Book: ["__init__", "names", "keeps", "ordered", "lines", "run", "outcomes", "__contains__", "sequential",
                 "buffered", "relaxed"],
}


class InterfaceTest(unittest.TestCase):

    def test_classes_and_functions_are_defined_in_their_files(self):
        for module, names in CLASSES.items():
            for name in names:
                self.assertTrue(inspect.isclass(getattr(module, name)))
                self.assertEqual(getattr(module, name).__module__, module.__name__)
        self.assertEqual(programs.check_program.__module__, "keptpairs.programs")

    def test_arguments(self):
        for item, expected in SIGNATURES:
            with self.subTest(item):
                self.assertEqual(str(inspect.signature(item)), expected)

    def test_each_method_stands_in_its_class(self):
        for owner, names in METHODS.items():
            for name in names:
                self.assertIn(name, vars(owner))

    def test_static_methods_and_the_property(self):
        self.assertIsInstance(vars(pairs.Pairs)["product"], staticmethod)
        for name in ("sequential", "buffered", "relaxed"):
            self.assertIsInstance(vars(books.Book)[name], staticmethod)
        self.assertIsInstance(vars(books.Book)["names"], property)

    def test_lines_is_a_generator(self):
        self.assertTrue(inspect.isgeneratorfunction(books.Book.lines))
