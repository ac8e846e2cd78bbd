"""Point 13 and keptpairs/pricing.py."""

import unittest
from itertools import product
from random import Random

from keptpairs.books import Book
from keptpairs.errors import InvalidPrice, LetBy, NotKept, UnknownName
from keptpairs.judging import judge
from keptpairs.pairs import KINDS
from keptpairs.pricing import cheapest, needless, price
from keptpairs.tables import Table, identity
from tests import oracle, tables_oracle
from tests.tables_oracle import fresh_book

PRICES = {"read": 1, "acquire": 4, "write": 2, "release": 6, "full": 30, "a": 5, "b": 7}
TARGET = fresh_book(fences={"a": [], "b": []})
NO_PRICES = [0, -1, -5, 10 ** 6 + 1, 10 ** 9, True, False, "1", "", None, 1.0, 2.5, [1], (1,), {}]
ORDER = ["read", "acquire", "write", "release", "a", "b", "full"]


def table_with(rows, source, target):
    table = Table(source, target)
    for name in rows:
        table[name] = rows[name]
    return table


def plain(tables):
    return sorted(tuple((name, table[name]) for name in table) for table in tables)


class PriceTest(unittest.TestCase):

    def test_the_sum_over_all_rows(self):
        rows = {"read": ["a", "read", "a", "full"], "write": ["release"], "full": ["a", "b"], "acquire": ["read"]}
        table = table_with(rows, fresh_book(), TARGET)
        self.assertEqual(price(table, PRICES), (5 + 1 + 5 + 30) + 6 + (5 + 7) + 1)
        table["full"] = []
        self.assertEqual(price(table, PRICES), 41 + 6 + 1)

    def test_a_table_without_rows_and_rows_without_words(self):
        table = Table(fresh_book(), TARGET)
        self.assertEqual(price(table, PRICES), 0)
        table["full"] = []
        self.assertEqual(price(table, PRICES), 0)

    def test_duplicates_are_not_paid_for(self):
        table = table_with({"read": ["a", "a", "read", "b", "b"]}, fresh_book(), TARGET)
        self.assertEqual(price(table, PRICES), 5 + 1 + 7)

    def test_prices_at_the_bounds(self):
        table = identity(TARGET, TARGET)
        self.assertEqual(price(table, {name: 1 for name in ORDER}), 7)
        self.assertEqual(price(table, {name: 10 ** 6 for name in ORDER}), 7 * 10 ** 6)

    def test_the_fences_of_the_target_have_prices(self):
        source = fresh_book(fences={"s": []})
        table = table_with({"s": ["full"], "read": ["read"]}, source, fresh_book())
        prices = {"read": 1, "acquire": 1, "write": 1, "release": 1, "full": 2}
        self.assertEqual(price(table, prices), 3)

    def test_other_keys_have_no_effect(self):
        more = {**PRICES, "c": 0, "fence": "x", "": None, 7: True, None: 1, ("a",): 2, "Read": -1}
        table = table_with({"read": ["a", "read"]}, fresh_book(), TARGET)
        self.assertEqual(price(table, more), 6)

    def test_prices_that_are_not_valid(self):
        table = Table(fresh_book(), TARGET)
        for name, worth in product(ORDER, NO_PRICES):
            with self.subTest(name=name, worth=worth):
                with self.assertRaises(InvalidPrice) as caught:
                    price(table, {**PRICES, name: worth})
                self.assertEqual(caught.exception.name, name)

    def test_prices_that_are_missing(self):
        table = table_with({"read": ["read"]}, fresh_book(), TARGET)
        for name in ORDER:
            with self.assertRaises(InvalidPrice) as caught:
                price(table, {key: worth for key, worth in PRICES.items() if key != name})
            self.assertEqual(caught.exception.name, name)
        with self.assertRaises(InvalidPrice) as caught:
            price(table, {})
        self.assertEqual(caught.exception.name, "read")

    def test_the_first_in_name_order(self):
        table = Table(fresh_book(), TARGET)
        for k, first in enumerate(ORDER):
            for second in ORDER[k + 1:]:
                for prices in ({**PRICES, second: 0, first: 0},
                               {key: worth for key, worth in PRICES.items() if key not in (first, second)},
                               {**{key: worth for key, worth in PRICES.items() if key != first}, second: True}):
                    with self.assertRaises(InvalidPrice) as caught:
                        price(table, prices)
                    self.assertEqual(caught.exception.name, first)

    def test_fences_of_the_source_need_no_price(self):
        table = table_with({"zz": ["a"]}, fresh_book(fences={"zz": []}), TARGET)
        self.assertEqual(price(table, PRICES), 5)

    def test_against_a_second_reading(self):
        random = Random(13)
        for source, target, rows in tables_oracle.some_tables(1300, 200):
            prices = {name: random.randrange(1, 50) for name in list(KINDS) + tables_oracle.fences_of(target)}
            table = tables_oracle.table_of(source, target, rows)
            before = dict(prices)
            self.assertEqual(price(table, prices), tables_oracle.price(rows, prices))
            self.assertEqual(prices, before)

    def test_asked_again_after_a_deed(self):
        table = table_with({"read": ["read"]}, fresh_book(), TARGET)
        prices = dict(PRICES)
        self.assertEqual(price(table, prices), 1)
        table |= table_with({"read": ["a", "read"]}, fresh_book(), TARGET)
        self.assertEqual(price(table, prices), 6)
        prices["a"] = 9
        self.assertEqual(price(table, prices), 10)


class NeedlessTest(unittest.TestCase):

    def test_fences_that_are_needed_and_others(self):
        rows = {"read": ["full", "read"], "write": ["write", "full"], "full": ["full"]}
        table = table_with(rows, Book.sequential(), Book.buffered())
        # One of the two between a write and a read is enough; each alone is needless.
        self.assertEqual(needless(table), [("read", 0), ("write", 1), ("full", 0)])
        table["read"] = ["read"]
        self.assertEqual(needless(table), [("full", 0)])
        table["write"] = ["full", "write", "full"]
        self.assertEqual(needless(table), [("write", 0), ("full", 0)])
        table["full"] = []
        self.assertEqual(needless(table), [("write", 0)])

    def test_the_kinds_in_a_row_are_never_told(self):
        table = identity(Book.sequential(), Book.sequential())
        self.assertEqual(needless(table), [("full", 0)])
        self.assertEqual(needless(identity(Book.sequential(), Book.sequential(), names=KINDS)), [])

    def test_tables_without_a_write_kind_need_no_fence(self):
        rows = {"read": ["full", "read", "full"], "acquire": ["acquire", "full"], "full": ["full"]}
        self.assertEqual(needless(table_with(rows, Book.sequential(), Book.relaxed())),
                         [("read", 0), ("read", 2), ("acquire", 1), ("full", 0)])
        self.assertEqual(needless(Table(Book.sequential(), Book.relaxed())), [])

    def test_two_fences_for_one_pair(self):
        target = fresh_book(fences={"a": [("write", "write")], "b": [("write", "write"), ("read", "read")]})
        source = fresh_book([("write", "write")])
        self.assertEqual(needless(table_with({"write": ["write", "a", "b"]}, source, target)),
                         [("write", 1), ("write", 2)])
        self.assertEqual(needless(table_with({"write": ["a", "write", "b"]}, source, target)),
                         [("write", 0), ("write", 2)])
        self.assertEqual(needless(table_with({"write": ["a", "write"]}, source, target)), [])
        self.assertEqual(needless(table_with({"write": ["a", "b", "full", "write"]}, source, target)),
                         [("write", 0), ("write", 1), ("write", 2)])

    def test_tables_that_are_not_right(self):
        table = table_with({"read": ["read", "full"], "write": ["write"]}, Book.sequential(), Book.buffered())
        with self.assertRaises(LetBy) as caught:
            needless(table)
        witness = caught.exception.witness
        self.assertEqual(witness.step, judge(table).step)
        self.assertIs((witness.program, witness.outcome) in table.source, False)
        self.assertIs(type(caught.exception.__cause__), NotKept)
        self.assertEqual(caught.exception.__cause__.step, witness.step)

    def test_each_told_fence_and_no_other(self):
        right = 0
        for source, target, rows in tables_oracle.some_tables(1301, 500):
            table = tables_oracle.table_of(source, target, rows)
            if not tables_oracle.is_right(source, target, rows):
                with self.assertRaises(LetBy):
                    needless(table)
                continue
            told = needless(table)
            self.assertEqual(told, tables_oracle.needless(source, target, rows))
            right += len(told) > 0
            for name, index in told:
                less = Table(table.source, table.target)
                for other in table:
                    less[other] = table[other]
                less[name] = table[name][:index] + table[name][index + 1:]
                self.assertIsNone(judge(less))
            self.assertEqual(tables_oracle.rows_of(table), rows_in_normal_form(rows))
        self.assertGreater(right, 50)

    def test_rows_full_of_fences(self):
        random = Random(1302)
        needed = 0
        for _ in range(60):
            source = tables_oracle.some_book(random, ["s"], early=False)
            target = tables_oracle.some_book(random, ["a", "b"], early=True)
            rows = {name: tables_oracle.some_row(random, name, target, 0.8) for name in list(KINDS) + ["full", "s"]}
            table = tables_oracle.table_of(source, target, rows)
            if judge(table) is None:
                told = needless(table)
                self.assertEqual(told, tables_oracle.needless(source, target, rows_in_normal_form(rows)))
                needed += len(told) < sum(len(row) for row in rows.values()) - 4
        self.assertGreater(needed, 5)

    def test_the_list_is_new(self):
        table = identity(Book.sequential(), Book.sequential())
        needless(table).clear()
        self.assertEqual(needless(table), [("full", 0)])


def rows_in_normal_form(rows):
    return {name: rows[name] for name in tables_oracle.in_name_order(rows)}


class CheapestTest(unittest.TestCase):

    def assert_cheapest(self, source, target, prices, names):
        before = dict(prices)
        tables = cheapest(oracle.make(source), oracle.make(target), prices, names=names)
        self.assertIs(type(tables), list)
        self.assertEqual(plain(tables), sorted(tables_oracle.cheapest(source, target, prices, names)))
        self.assertEqual(prices, before)
        return tables

    def test_write_and_read_in_a_buffered_target(self):
        prices = {"read": 2, "acquire": 3, "write": 2, "release": 3, "full": 10}
        tables = cheapest(Book.sequential(), Book.buffered(), prices, names=["read", "write"])
        self.assertEqual(plain(tables), [(("read", ("full", "read")), ("write", ("write",))),
                                         (("read", ("read",)), ("write", ("write", "full")))])
        for table in tables:
            self.assertIs(type(table), Table)
            self.assertIsNone(judge(table))
            self.assertEqual(price(table, prices), 14)

    def test_a_dearer_kind_instead_of_a_fence(self):
        prices = {"read": 2, "acquire": 3, "write": 2, "release": 3, "full": 10}
        source = fresh_book([("read", "write"), ("read", "read")], early=True)
        tables = cheapest(source, Book.relaxed(), prices, names=("read", "write"))
        self.assertEqual(plain(tables), [(("read", ("acquire",)), ("write", ("write",)))])
        prices["acquire"] = 100
        tables = cheapest(source, Book.relaxed(), prices, names=("read", "write"))
        self.assertEqual(plain(tables), [(("read", ("read", "full")), ("write", ("write",)))])

    def test_the_books_are_those_that_were_passed(self):
        source, target = Book.sequential(), Book.buffered()
        for table in cheapest(source, target, PRICES, names=["read", "write", "full"]):
            self.assertIs(table.source, source)
            self.assertIs(table.target, target)
            self.assertEqual(list(table), ["read", "write", "full"])

    def test_no_names(self):
        for names in ([], ()):
            [table] = cheapest(Book.sequential(), Book.relaxed(), PRICES, names=names)
            self.assertIs(type(table), Table)
            self.assertEqual(list(table), [])

    def test_names_of_fences_alone(self):
        source = fresh_book(oracle.EVERY, fences={"s": oracle.EVERY})
        for names in (["full"], ["s", "full"]):
            tables = cheapest(source, TARGET, PRICES, names=names)
            self.assertEqual(plain(tables), [tuple((name, ()) for name in tables_oracle.in_name_order(names))])

    def test_names_without_a_write_kind(self):
        prices = {**PRICES, "acquire": 1}
        tables = cheapest(Book.sequential(), TARGET, prices, names=["read", "acquire", "full"])
        self.assertEqual(plain(tables), sorted((("read", (a,)), ("acquire", (b,)), ("full", ()))
                                               for a, b in product(["read", "acquire"], repeat=2)))

    def test_one_name_twice(self):
        once = cheapest(Book.sequential(), Book.relaxed(), PRICES, names=["write", "full"])
        twice = cheapest(Book.sequential(), Book.relaxed(), PRICES, names=["full", "write", "full", "write"])
        self.assertEqual(plain(once), plain(twice))

    def test_two_write_kinds_and_a_read_against_all_tables(self):
        random = Random(1303)
        for k in range(12):
            source = tables_oracle.some_book(random, early=k % 2 == 0, coherent=k % 3 == 0)
            target = tables_oracle.some_book(random, early=k % 3 > 0, coherent=k % 4 == 0)
            prices = {name: random.randrange(1, 4) for name in list(KINDS) + ["full"]}
            self.assert_cheapest(source, target, prices, ["release", random.choice(["read", "acquire"]), "write"])

    def test_one_fence_in_the_target_against_all_tables(self):
        random = Random(1304)
        for _ in range(60):
            source = tables_oracle.some_book(random, ["s"])
            target = tables_oracle.some_book(random)
            prices = {name: random.randrange(1, 4) for name in list(KINDS) + ["full"]}
            names = random.sample(KINDS, random.randrange(3)) + random.sample(["s", "full"], random.randrange(3))
            random.shuffle(names)
            self.assert_cheapest(source, target, prices, names)

    def test_two_fences_in_the_target_against_all_tables(self):
        random = Random(1305)
        ties = 0
        for k in range(12):
            source = tables_oracle.some_book(random, early=k % 2 == 0)
            target = tables_oracle.some_book(random, ["b"], early=True, coherent=k % 3 == 0)
            prices = {**{name: random.randrange(1, 3) for name in KINDS}, "full": random.randrange(2, 5), "b": 2}
            names = [random.choice(["read", "acquire"]), random.choice(["write", "release"])] + ["full"] * (k % 2)
            ties += len(self.assert_cheapest(source, target, prices, names)) > 1
        self.assertGreater(ties, 2)

    def test_the_tables_are_right_and_needless_of_nothing(self):
        random = Random(1306)
        for _ in range(60):
            source = oracle.make(tables_oracle.some_book(random, ["s"]))
            target = oracle.make(tables_oracle.some_book(random, ["b"]))
            prices = {name: random.randrange(1, 5) for name in list(KINDS) + ["b", "full"]}
            names = random.sample(KINDS, 3) + ["s", "full"]
            tables = cheapest(source, target, prices, names=names)
            self.assertEqual(len(plain(tables)), len(set(plain(tables))))
            self.assertEqual(len({price(table, prices) for table in tables}), 1)
            for table in tables:
                self.assertEqual(list(table), tables_oracle.in_name_order(names))
                self.assertIsNone(judge(table))
                self.assertEqual(needless(table), [])

    def test_no_table_is_cheaper_and_each_as_cheap_is_told(self):
        """Tables of many rows against drawn ones, where trying all would take too long."""
        random = Random(1307)
        for _ in range(25):
            source = tables_oracle.some_book(random, ["s"])
            target = tables_oracle.some_book(random, ["b"])
            prices = {name: random.randrange(1, 4) for name in list(KINDS) + ["b", "full"]}
            names = random.sample(KINDS, 3) + ["s", "full"]
            tables = cheapest(oracle.make(source), oracle.make(target), prices, names=names)
            least = price(tables[0], prices)
            for _ in range(200):
                rows = {name: tables_oracle.some_row(random, name, target, 0.2)
                        for name in tables_oracle.in_name_order(names)}
                cost = tables_oracle.price(rows, prices)
                if cost > least or not tables_oracle.is_right(source, target, rows):
                    continue
                self.assertEqual(cost, least)
                self.assertIn(tuple(rows.items()), plain(tables))

    def test_unknown_names_come_first(self):
        source = fresh_book(fences={"s": []})
        cases = [(["b"], "b"), (["read", "x", "b"], "x"), (["s", "a", "nothing"], "a"), ([""], ""), (("Read",), "Read")]
        for names, told in cases:
            for prices in (PRICES, {}, {**PRICES, "read": 0}):
                with self.subTest(names):
                    with self.assertRaises(UnknownName) as caught:
                        cheapest(source, TARGET, prices, names=names)
                    self.assertEqual(caught.exception.name, told)

    def test_prices_that_are_not_valid(self):
        for name, worth in product(ORDER, NO_PRICES):
            with self.assertRaises(InvalidPrice) as caught:
                cheapest(Book.sequential(), TARGET, {**PRICES, name: worth}, names=[])
            self.assertEqual(caught.exception.name, name)
        with self.assertRaises(InvalidPrice) as caught:
            cheapest(Book.sequential(), TARGET, {"read": 1, "write": 1}, names=["read"])
        self.assertEqual(caught.exception.name, "acquire")

    def test_names_go_by_keyword(self):
        with self.assertRaises(TypeError):
            cheapest(Book.sequential(), TARGET, PRICES, ["read"])
        with self.assertRaises(TypeError):
            cheapest(Book.sequential(), TARGET, PRICES)

    def test_what_is_passed_may_change_afterwards_and_the_tables_are_new(self):
        names, prices = ["write", "read", "full"], dict(PRICES)
        source, target = Book.sequential(), Book.buffered()
        tables = cheapest(source, target, prices, names=names)
        self.assertEqual((names, prices), (["write", "read", "full"], PRICES))
        told = plain(tables)
        names.clear()
        prices.clear()
        self.assertEqual(plain(tables), told)
        for table in tables:
            table["read"] = ["full", "acquire", "full"]
            table["acquire"] = ["acquire"]
        tables.clear()
        self.assertEqual(plain(cheapest(source, target, PRICES, names=["write", "read", "full"])), told)
