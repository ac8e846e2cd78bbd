"""Point 16: tables, prices and changes at the bounds are ordinary inputs."""

import unittest
from itertools import combinations, product
from random import Random

from keptpairs.books import Book
from keptpairs.changes import drop_fence, drop_read, drop_write, exchange, forward
from keptpairs.errors import LetBy
from keptpairs.judging import compare, judge, lost, must_keep, require
from keptpairs.pairs import KINDS, READS, WRITES, Pairs
from keptpairs.pricing import cheapest, needless, price
from keptpairs.tables import Table, identity
from tests import oracle, tables_oracle
from tests.search import size
from tests.tables_oracle import fresh_book

LOOSE = fresh_book(early=True, coherent=False)
FOUR = {"a": oracle.EVERY, "b": [("write", "read")], "c": [("acquire", "acquire"), ("read", "write")]}


def fullest(source, target):
    """All names with rows, and all fences on all sides."""
    table = Table(source, target)
    for name in KINDS + source.names:
        table[name] = target.names + (name,) + target.names if name in KINDS else target.names
    return table


class TablesTest(unittest.TestCase):

    def test_many_fences_in_all_rows(self):
        source = fresh_book([("write", "read")], fences=FOUR)
        target = fresh_book(fences={"x": [], "y": oracle.EVERY, "z": [("read", "read")]}, early=True, coherent=False)
        table = fullest(source, target)
        self.assertEqual(sum(len(table[name]) for name in table), 4 * 9 + 4 * 4)
        self.assertEqual(lost(table), [])
        self.assertIsNone(judge(table))
        self.assertIsNone(require(table))
        told = needless(table)
        self.assertEqual(told, tables_oracle.needless(
            ({("write", "read")}, {name: set(FOUR[name]) for name in FOUR}, False, True),
            (set(), {"x": set(), "y": set(oracle.EVERY), "z": {("read", "read")}}, True, False),
            tables_oracle.rows_of(table)))
        self.assertEqual(price(table, {name: 10 ** 6 for name in KINDS + target.names}), 52 * 10 ** 6)

    def test_books_with_four_fences(self):
        random = Random(1600)
        for _ in range(40):
            source = tables_oracle.some_book(random, ["a", "b", "c"])
            target = tables_oracle.some_book(random, ["a", "y", "z"])
            rows = {name: tables_oracle.some_row(random, name, target, 0.3)
                    for name in list(KINDS) + tables_oracle.fences_of(source)}
            table = tables_oracle.table_of(source, target, rows)
            self.assertEqual(lost(table), tables_oracle.lost(source, target, rows))
            witness = judge(table)
            self.assertIs(witness is None, tables_oracle.is_right(source, target, rows))
            for step in tables_oracle.steps(source, rows) - set(lost(table)):
                self.assertIsNone(must_keep(table, step))
            if witness is None:
                self.assertEqual(needless(table), tables_oracle.needless(source, target, rows))
            else:
                self.assertLessEqual(size(witness.program), 7)
                self.assertLessEqual(sum(len(thread) for thread in witness.program), 20)
                with self.assertRaises(LetBy):
                    needless(table)
            compare(table.source, table.target)

    def test_a_compiled_program_of_300_instructions(self):
        source = fresh_book(fences=FOUR)
        table = fullest(source, fresh_book(fences={"x": [], "y": []}))
        thread = [("a",)] * 100 + [("read", 0), ("write", 1, 10 ** 9)] + [("full",), ("c",)] * 99
        program = [thread[:75], thread[75:150], thread[150:225], thread[225:]]
        self.assertEqual(sum(len(part) for part in program), 300)
        self.assertEqual(table(program), tables_oracle.compiled(tables_oracle.rows_of(table), program))
        self.assertEqual(table([thread]), [[word for part in table(program) for word in part]])

    def test_a_program_of_seven_accesses(self):
        table = identity(Book.sequential(), Book.relaxed())
        program = [[("read", k), ("write", k, k + 1)] for k in range(3)] + [[("acquire", 9)]]
        self.assertEqual(size(table(program)), 7)
        self.assertEqual(table(program), program)

    def test_connects_over_many_names(self):
        table = identity(fresh_book(fences=FOUR), fresh_book(fences=FOUR))
        names = ["read"] + ["acquire", "b", "write"] * 60 + ["read"]
        self.assertIs(table.connects(names), False)
        self.assertIs(table.connects(names[:90] + ["full"] + names[90:]), True)

    def test_tables_joined_over_and_over(self):
        book = fresh_book(fences=FOUR)
        table = fullest(book, book)
        for _ in range(20):
            table = table.then(fullest(book, book))
        self.assertEqual(tables_oracle.rows_of(table), tables_oracle.rows_of(fullest(book, book)))


class CheapestTest(unittest.TestCase):

    def assert_cheapest(self, source, target, prices, names):
        tables = cheapest(source, target, prices, names=names)
        self.assertTrue(tables)
        rows = [tuple(tables_oracle.rows_of(table).items()) for table in tables]
        self.assertEqual(len(rows), len(set(rows)))
        self.assertEqual(len({price(table, prices) for table in tables}), 1)
        for table in tables:
            self.assertEqual(list(table), tables_oracle.in_name_order(names))
            self.assertEqual(lost(table) if set(names) & set(WRITES) else [], [])
            self.assertEqual(needless(table), [])
        return tables

    def test_three_kinds_and_two_fences_in_a_target_with_two_fences(self):
        sources = [fresh_book(oracle.EVERY, fences={"s": oracle.EVERY}), fresh_book(fences={"s": FOUR["c"]}),
                   fresh_book([("write", "read"), ("read", "read")], fences={"s": FOUR["b"]}, early=True)]
        targets = [fresh_book(fences={"b": oracle.EVERY}, early=True, coherent=False),
                   fresh_book([("write", "write")], fences={"b": FOUR["b"]}, early=True)]
        kinds = [names for names in combinations(KINDS, 3)]
        for source, target, names in product(sources, targets, kinds):
            for prices in ({name: 1 for name in KINDS + target.names},
                           {"read": 1, "acquire": 3, "write": 1, "release": 3, "b": 2, "full": 10 ** 6}):
                self.assert_cheapest(source, target, prices, [*names, "full", "s"])

    def test_drawn_books(self):
        random = Random(1601)
        most = 0
        for _ in range(60):
            source = oracle.make(tables_oracle.some_book(random, ["s"]))
            target = oracle.make(tables_oracle.some_book(random, ["b"], early=True, coherent=False))
            prices = {name: random.randrange(1, 3) for name in KINDS + target.names}
            tables = self.assert_cheapest(source, target, prices, [*random.sample(KINDS, 3), "s", "full"])
            most = max(most, len(tables))
        self.assertGreater(most, 10)

    def test_somewhat_beyond_the_bounds(self):
        source = fresh_book([("write", "read"), ("read", "write")], fences={"s": FOUR["b"]})
        target = fresh_book(fences={"b": FOUR["b"], "c": oracle.EVERY}, early=True)
        self.assert_cheapest(source, target, {name: 5 for name in KINDS + target.names}, [*KINDS, "s", "full"])


class ChangesTest(unittest.TestCase):

    def books(self):
        for early, coherent in product([False, True], [False, True]):
            for kept in ([], oracle.EVERY, FOUR["c"], [("write", "read"), ("acquire", "write")]):
                yield fresh_book(kept, fences=FOUR, early=early, coherent=coherent)

    def assert_small(self, book, found):
        if found is not None:
            self.assertLessEqual(size(found.program), 7)
            self.assertLessEqual(sum(len(thread) for thread in found.program), 20)
            self.assertEqual(len(found.outcome), 2)
            self.assertIs((found.program, found.outcome) in book, False)

    def test_books_with_four_fences(self):
        for book in self.books():
            for first, second in product(KINDS + book.names, repeat=2):
                self.assert_small(book, exchange(book, first, second))
            for first, second in product(READS, READS):
                self.assert_small(book, drop_read(book, first, second))
            for first, second in product(WRITES, WRITES):
                self.assert_small(book, drop_write(book, first, second))
            for first, second in product(WRITES, READS):
                self.assert_small(book, forward(book, first, second))
            for first, second in product(book.names, book.names):
                self.assert_small(book, drop_fence(book, first, second))

    def test_somewhat_beyond_the_bounds(self):
        book = fresh_book([("acquire", "read")], fences={name: [("read", "read")] for name in "abcdef"}, early=True)
        for write, read in product(WRITES, READS):
            self.assert_small(book, forward(book, write, read))
        self.assertIsNone(drop_fence(book, "a", "f"))
        self.assertIsNotNone(exchange(book, "read", "e"))


class NoKindTest(unittest.TestCase):

    def test_empty_tables_are_ordinary(self):
        for source, target in product([Book.sequential(), LOOSE], repeat=2):
            table = Table(source, target)
            self.assertEqual((list(table), lost(table), judge(table), needless(table)), ([], [], None, []))
            self.assertEqual(table([[], []]), [[], []])
            self.assertEqual(price(table, {name: 1 for name in KINDS + ("full",)}), 0)
            table |= Table(source, target)
            self.assertEqual(list(table.then(Table(target, source))), [])
        self.assertEqual(Pairs(), Pairs([]))
