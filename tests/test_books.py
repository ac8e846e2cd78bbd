"""Points 3 and 4 and the parts of keptpairs/books.py that need no program."""

import unittest
from itertools import product

from keptpairs.books import Book
from keptpairs.errors import InvalidBook, InvalidPair, UnknownName
from keptpairs.pairs import KINDS, READS, WRITES, Pairs
from tests import oracle

NO_PAIRS = Pairs()
ALL_PAIRS = Pairs.product(KINDS, KINDS)
NO_FENCE_NAMES = ["full", "read", "acquire", "write", "release", "", "ninechars", "abcdefghi", "Fence", "aB",
                  "a1", "1", "a b", " ", "a_", "a-b", "\u00e4", "a\n"]


def access(kind, cell):
    return (kind, cell) if kind in READS else (kind, cell, 1)


class MakeTest(unittest.TestCase):

    def test_fields_and_names(self):
        kept = Pairs([("read", "write")])
        book = Book(kept, fences={"zz": Pairs(), "b": Pairs(), "mid": kept}, early=True, coherent=False)
        self.assertEqual(book.kept, kept)
        self.assertIs(type(book.kept), Pairs)
        self.assertIs(book.early, True)
        self.assertIs(book.coherent, False)
        self.assertEqual(book.names, ("b", "full", "mid", "zz"))
        self.assertIs(type(book.names), tuple)

    def test_what_is_left_out(self):
        for book in (Book(NO_PAIRS), Book(kept=NO_PAIRS), Book(NO_PAIRS, fences=None), Book(NO_PAIRS, fences={})):
            self.assertIs(book.early, False)
            self.assertIs(book.coherent, True)
            self.assertEqual(book.names, ("full",))
            self.assertEqual(book.kept, NO_PAIRS)

    def test_each_flag_alone(self):
        book = Book(NO_PAIRS, early=True)
        self.assertEqual((book.early, book.coherent), (True, True))
        book = Book(NO_PAIRS, coherent=False)
        self.assertEqual((book.early, book.coherent), (False, False))
        book = Book(NO_PAIRS, early=False, coherent=True)
        self.assertEqual((book.early, book.coherent), (False, True))

    def test_the_rest_goes_by_keyword(self):
        with self.assertRaises(TypeError):
            Book(NO_PAIRS, {})
        with self.assertRaises(TypeError):
            Book(NO_PAIRS, {}, True, False)
        with self.assertRaises(TypeError):
            Book()

    def test_names_ascend_in_string_order(self):
        names = ["b", "aa", "a", "ab", "abcdefgh", "z", "fulk", "fullx", "fum", "reads"]
        book = Book(NO_PAIRS, fences={name: Pairs() for name in names})
        self.assertEqual(book.names, tuple(sorted(names + ["full"])))

    def test_names_that_no_further_fence_may_have(self):
        for name in NO_FENCE_NAMES:
            with self.subTest(name):
                with self.assertRaises(InvalidBook) as caught:
                    Book(NO_PAIRS, fences={"a": Pairs(), name: Pairs(), "zz": Pairs()})
                self.assertEqual(caught.exception.name, name)

    def test_the_first_bad_name_ascending(self):
        cases = [
            (["write", "read", "full", "acquire"], "acquire"),
            (["zzzzzzzzz", "full", "good"], "full"),
            (["release", "read"], "read"),
            (["full", "Full"], "Full"),
            (["full", "a1", ""], ""),
            (["aa", "b", "write", "z z"], "write"),
        ]
        for names, first in cases:
            for order in (names, names[::-1]):
                with self.subTest(order):
                    with self.assertRaises(InvalidBook) as caught:
                        Book(NO_PAIRS, fences={name: Pairs() for name in order})
                    self.assertEqual(caught.exception.name, first)

    def test_a_dict_of_fences_that_is_changed_behind_the_call(self):
        fences = {"a": Pairs([("read", "read")]), "b": Pairs()}
        book = Book(NO_PAIRS, fences=fences)
        self.assertEqual(fences, {"a": Pairs([("read", "read")]), "b": Pairs()})
        fences["c"] = ALL_PAIRS
        fences["a"] = Pairs()
        del fences["b"]
        self.assertEqual(book.names, ("a", "b", "full"))
        self.assertIs(book.keeps("read", "read", between=("a",)), True)
        self.assertIs(book.keeps("read", "read", between=("b",)), False)
        with self.assertRaises(UnknownName):
            book.keeps("read", "read", between=("c",))
        fences.clear()
        self.assertEqual(book.names, ("a", "b", "full"))

    def test_two_books_from_one_dict(self):
        fences = {"a": Pairs()}
        first = Book(NO_PAIRS, fences=fences)
        fences["b"] = Pairs()
        second = Book(NO_PAIRS, fences=fences)
        self.assertEqual((first.names, second.names), (("a", "full"), ("a", "b", "full")))


class KeepsTest(unittest.TestCase):

    def test_the_pair_alone(self):
        for kept in product(KINDS, KINDS):
            book = Book(Pairs([kept]))
            for pair in product(KINDS, KINDS):
                self.assertIs(book.keeps(*pair), pair == kept)
                self.assertIs(book.keeps(*pair, between=[]), pair == kept)

    def test_full_keeps_all_pairs_in_every_book(self):
        books = [Book(NO_PAIRS), Book(NO_PAIRS, fences={"a": Pairs()}), Book.relaxed(), Book.buffered(),
                 Book.sequential(), Book(NO_PAIRS, early=True, coherent=False)]
        for book in books:
            for pair in product(KINDS, KINDS):
                self.assertIs(book.keeps(*pair, between=("full",)), True)
                self.assertIs(book.keeps(*pair, between=["full", "full"]), True)

    def test_fences_in_between(self):
        fences = {"a": Pairs([("read", "write")]), "b": Pairs([("write", "read")]), "none": Pairs()}
        book = Book(Pairs([("read", "read")]), fences=fences)
        cases = [
            ("read", "read", ["none"], True),
            ("read", "write", [], False),
            ("read", "write", ["a"], True),
            ("read", "write", ["b"], False),
            ("read", "write", ["none"], False),
            ("read", "write", ["b", "none", "b"], False),
            ("read", "write", ["b", "none", "a"], True),
            ("read", "write", ["a", "b"], True),
            ("write", "read", ["a"], False),
            ("write", "read", ["a", "b"], True),
            ("write", "write", ["a", "b", "none"], False),
            ("write", "write", ["a", "b", "full", "none"], True),
            ("acquire", "write", ["a"], False),
            ("read", "release", ["a"], False),
        ]
        for first, second, between, answer in cases:
            with self.subTest((first, second, between)):
                self.assertIs(book.keeps(first, second, between=between), answer)
                self.assertIs(book.keeps(first, second, between=tuple(between)), answer)

    def test_the_flags_do_not_matter(self):
        for early, coherent in product([False, True], [False, True]):
            book = Book(NO_PAIRS, early=early, coherent=coherent)
            for pair in product(KINDS, KINDS):
                self.assertIs(book.keeps(*pair), False)

    def test_between_goes_by_keyword(self):
        with self.assertRaises(TypeError):
            Book(NO_PAIRS).keeps("read", "read", ["full"])

    def test_words_that_are_no_kind(self):
        book = Book(ALL_PAIRS, fences={"a": ALL_PAIRS})
        cases = [("a", "read"), ("read", "a"), ("full", "full"), ("", "read"), ("Read", "read"), ("read", None),
                 (3, "read"), ("reads", "write"), (("read", "write"), "read"), (["read"], "read")]
        for pair in cases:
            with self.subTest(pair):
                with self.assertRaises(InvalidPair) as caught:
                    book.keeps(*pair)
                self.assertEqual(caught.exception.pair, pair)
                self.assertIs(type(caught.exception.pair), tuple)

    def test_unknown_fences(self):
        book = Book(Pairs([("read", "read")]), fences={"a": ALL_PAIRS})
        cases = [(["b"], "b"), (["a", "b"], "b"), (["full", "c", "b"], "c"), (["b", "a"], "b"), (("read",), "read"),
                 (("a", "write", "b"), "write"), (["Full"], "Full"), ([""], "")]
        for between, name in cases:
            for pair in (("read", "read"), ("write", "write")):
                with self.subTest((pair, between)):
                    with self.assertRaises(UnknownName) as caught:
                        book.keeps(*pair, between=between)
                    self.assertEqual(caught.exception.name, name)

    def test_which_error_comes_first(self):
        book = Book(ALL_PAIRS)
        with self.assertRaises(InvalidPair) as caught:
            book.keeps("read", "full", between=["b"])
        self.assertEqual(caught.exception.pair, ("read", "full"))

    def test_what_is_passed_is_left_alone(self):
        between = ["full", "full"]
        Book(NO_PAIRS).keeps("read", "read", between=between)
        self.assertEqual(between, ["full", "full"])


class OrderedTest(unittest.TestCase):

    def assert_ordered(self, book, thread, first, second, answer):
        before = list(thread)
        self.assertIs(book.ordered(thread, first, second), answer)
        self.assertEqual(thread, before)

    def test_a_kept_pair_alone(self):
        for kept in product(KINDS, KINDS):
            book = Book(Pairs([kept]), early=True, coherent=False)
            for a, b in product(KINDS, KINDS):
                self.assert_ordered(book, [access(a, 0), access(b, 1)], 0, 1, (a, b) == kept)
            thread = [access(kept[0], 3), access(kept[1], 3)]
            self.assert_ordered(book, thread, 0, 1, True)

    def test_a_fence_alone(self):
        fences = {"f": Pairs([("write", "read"), ("read", "read")]), "none": Pairs()}
        book = Book(NO_PAIRS, fences=fences, early=True, coherent=False)
        for a, b in product(KINDS, KINDS):
            for middle, answer in (([], False), (["none"], False), (["f"], (a, b) in fences["f"]), (["full"], True),
                                   (["none", "f"], (a, b) in fences["f"]), (["f", "none"], (a, b) in fences["f"]),
                                   (["none", "none", "full"], True)):
                thread = [access(a, 0)] + [(name,) for name in middle] + [access(b, 1)]
                self.assert_ordered(book, thread, 0, len(thread) - 1, answer)

    def test_several_fences_do_not_keep_together_what_none_keeps(self):
        fences = {"f": Pairs([("write", "write")]), "g": Pairs([("read", "read")])}
        book = Book(NO_PAIRS, fences=fences)
        self.assert_ordered(book, [("write", 0, 1), ("f",), ("g",), ("read", 1)], 0, 3, False)

    def test_only_fences_between_count(self):
        book = Book(NO_PAIRS, early=True, coherent=False)
        thread = [("full",), ("read", 0), ("read", 1), ("full",), ("read", 2), ("full",)]
        self.assert_ordered(book, thread, 1, 2, False)
        self.assert_ordered(book, thread, 2, 4, True)
        self.assert_ordered(book, thread, 1, 4, True)

    def test_accesses_between_do_not_count(self):
        book = Book(Pairs([("read", "acquire"), ("acquire", "write")]), coherent=False)
        thread = [("read", 0), ("acquire", 1), ("write", 2, 1)]
        self.assert_ordered(book, thread, 0, 1, True)
        self.assert_ordered(book, thread, 1, 2, True)
        self.assert_ordered(book, thread, 0, 2, False)

    def test_the_second_writes_the_same_cell(self):
        book = Book(NO_PAIRS, early=True, coherent=False)
        for a, b in product(KINDS, WRITES):
            self.assert_ordered(book, [access(a, 4), access(b, 4)], 0, 1, True)
            self.assert_ordered(book, [access(a, 4), access(b, 5)], 0, 1, False)

    def test_two_reads_of_one_cell(self):
        for a, b in product(READS, READS):
            for early in (False, True):
                thread = [access(a, 4), access(b, 4)]
                self.assert_ordered(Book(NO_PAIRS, early=early, coherent=True), thread, 0, 1, True)
                self.assert_ordered(Book(NO_PAIRS, early=early, coherent=False), thread, 0, 1, False)
                thread = [access(a, 4), access(b, 0)]
                self.assert_ordered(Book(NO_PAIRS, early=early, coherent=True), thread, 0, 1, False)

    def test_a_read_behind_a_write_of_one_cell(self):
        for a, b in product(WRITES, READS):
            for coherent in (False, True):
                thread = [access(a, 4), access(b, 4)]
                self.assert_ordered(Book(NO_PAIRS, early=False, coherent=coherent), thread, 0, 1, True)
                self.assert_ordered(Book(NO_PAIRS, early=True, coherent=coherent), thread, 0, 1, False)
                thread = [access(a, 4), access(b, 0)]
                self.assert_ordered(Book(NO_PAIRS, early=False, coherent=coherent), thread, 0, 1, False)

    def test_a_fence_of_no_book_keeps_nothing(self):
        book = Book(NO_PAIRS, early=True, coherent=False)
        self.assert_ordered(book, [("read", 0), ("other",), ("read", 1)], 0, 2, False)
        self.assert_ordered(book, [("read", 0), ("other",), ("full",), ("read", 1)], 0, 3, True)

    def test_all_conditions_together(self):
        """Against the words of point 4: every pair of kinds, one or two cells, fences, books and flags."""
        pairs = [set(), {("read", "read")}, {("write", "read"), ("read", "write")}, set(oracle.EVERY)]
        middles = [[], ["f"], ["g"], ["f", "g"], ["g", "g", "f"], ["full"], ["g", "full"]]
        for kept, keeps, early, coherent in product(pairs, pairs, [False, True], [False, True]):
            description = (kept, {"f": keeps, "g": {("acquire", "release")}}, early, coherent)
            book = oracle.make(description)
            for a, b, middle, cell in product(KINDS, KINDS, middles, [2, 3]):
                thread = [("read", 2), access(a, 2)] + [(name,) for name in middle] + [access(b, cell), ("full",)]
                first, second = 1, len(thread) - 2
                self.assertIs(book.ordered(thread, first, second), oracle.ordered(description, thread, first, second))


class ReadyBooksTest(unittest.TestCase):

    def test_sequential(self):
        book = Book.sequential()
        self.assertIs(type(book), Book)
        self.assertEqual(book.kept, ALL_PAIRS)
        self.assertEqual((book.early, book.coherent, book.names), (False, True, ("full",)))

    def test_buffered(self):
        book = Book.buffered()
        self.assertIs(type(book), Book)
        dropped = [("write", "read"), ("write", "acquire"), ("release", "read"), ("release", "acquire")]
        self.assertEqual(list(book.kept), [pair for pair in product(KINDS, KINDS) if pair not in dropped])
        self.assertEqual((book.early, book.coherent, book.names), (True, True, ("full",)))

    def test_relaxed(self):
        book = Book.relaxed()
        self.assertIs(type(book), Book)
        self.assertEqual(list(book.kept), [
            ("read", "release"), ("acquire", "read"), ("acquire", "acquire"), ("acquire", "write"),
            ("acquire", "release"), ("write", "release"), ("release", "release")])
        self.assertEqual((book.early, book.coherent, book.names), (True, False, ("full",)))

    def test_each_call_gives_a_new_book(self):
        for make in (Book.sequential, Book.buffered, Book.relaxed):
            self.assertIsNot(make(), make())
