"""Point 1: what a call leaves as it was, and that answers are those of the objects as they are then."""

import unittest
from random import Random

from keptpairs.changes import drop_fence, drop_read, drop_write, exchange, forward
from keptpairs.errors import OrderError
from keptpairs.judging import compare, judge, lost, must_keep, require
from keptpairs.pairs import KINDS, READS, WRITES
from keptpairs.pricing import cheapest, needless, price
from keptpairs.tables import Table, identity
from tests import oracle, tables_oracle


def state_of_book(book):
    keeps = [book.keeps(a, b, between=[name]) for name in book.names for a, b in oracle.EVERY]
    return list(book.kept), book.early, book.coherent, book.names, keeps


def state_of(table):
    return state_of_book(table.source), state_of_book(table.target), list(tables_oracle.rows_of(table).items())


def calls(table, other, names, prices):
    """Calls of everything that takes a table or two books, as functions without arguments."""
    source, target = table.source, table.target
    program = [[(name, 0) if oracle.is_read(name) else (name, 0, 1) if name in KINDS else (name,) for name in table]]
    found = [
        lambda: list(table), lambda: table(program), lambda: table.then(other), lambda: lost(table),
        lambda: judge(table), lambda: require(table), lambda: needless(table), lambda: price(table, prices),
        lambda: cheapest(source, target, prices, names=names), lambda: compare(source, target, names=names),
        lambda: compare(source, target), lambda: identity(source, target, names=names),
        lambda: exchange(source, "read", "write"), lambda: exchange(target, "full", "write", same_cell=True),
        lambda: drop_fence(source, "full", "full"),
    ]
    found += [lambda a=a, b=b: table.connects([a, *names, b]) for a in table for b in table if {a, b} <= set(KINDS)]
    found += [lambda step=step: must_keep(table, step) for step in lost(table)]
    found += [lambda w=w, r=r: forward(target, w, r) for w in WRITES for r in READS]
    found += [lambda: drop_read(source, *READS), lambda: drop_write(source, *WRITES)]
    return found


class LeftAloneTest(unittest.TestCase):

    def test_no_call_changes_an_object_or_an_argument(self):
        random = Random(101)
        for source, target, rows in tables_oracle.some_tables(102, 40):
            table = tables_oracle.table_of(source, target, rows)
            other = identity(table.target, table.target)
            names, prices = list(rows)[:2], {name: random.randrange(1, 9) for name in KINDS + table.target.names}
            before = state_of(table), state_of(other), list(names), dict(prices)
            for call in calls(table, other, names, prices):
                try:
                    call()
                except OrderError:
                    pass
                self.assertEqual((state_of(table), state_of(other), names, prices), before)

    def test_refused_deeds_change_nothing(self):
        for source, target, rows in tables_oracle.some_tables(103, 40):
            table = tables_oracle.table_of(source, target, rows)
            before = state_of(table)
            for name, row in (("read", ["write"]), ("full", ["read"]), ("x", []), ("write", None), ("release", "full")):
                with self.assertRaises(OrderError):
                    table[name] = row
                self.assertEqual(state_of(table), before)
            more = Table(table.source, table.target)
            with self.assertRaises(OrderError):
                table |= more
            self.assertEqual(state_of(table), before)


class AnswersTest(unittest.TestCase):

    def test_an_answer_asked_again_after_a_deed_is_that_of_the_table_as_it_is_then(self):
        random = Random(104)
        for source, target, rows in tables_oracle.some_tables(105, 60):
            table = tables_oracle.table_of(source, target, rows)
            prices = {name: random.randrange(1, 9) for name in KINDS + table.target.names}
            rows = tables_oracle.rows_of(table)
            for _ in range(6):
                self.assert_answers(table, source, target, rows, prices)
                if random.random() < 0.5:
                    name = random.choice(list(KINDS) + tables_oracle.fences_of(source))
                    rows[name] = tables_oracle.some_row(random, name, target, 0.3)
                    table[name] = list(rows[name])
                else:
                    more = {name: self.widened(random, row, target) for name, row in rows.items()}
                    table |= tables_oracle.table_of(source, target, more)
                    rows = {**rows, **more}

    def widened(self, random, row, target):
        """The row with one more fence ahead, if that makes a difference."""
        kinds = [k for k, word in enumerate(row) if word in KINDS] or [len(row)]
        fence = random.choice(tables_oracle.fences_of(target))
        return tuple(sorted(set(row[:kinds[0]]) | {fence})) + row[kinds[0]:]

    def assert_answers(self, table, source, target, rows, prices):
        self.assertEqual(tables_oracle.rows_of(table), rows)
        self.assertEqual(list(table), tables_oracle.in_name_order(rows))
        self.assertEqual(lost(table), tables_oracle.lost(source, target, rows))
        right = tables_oracle.is_right(source, target, rows)
        self.assertIs(judge(table) is None, right)
        self.assertEqual(price(table, prices), tables_oracle.price(rows, prices))
        kinds = [name for name in rows if name in KINDS]
        self.assertIs(table.connects([kinds[0], kinds[-1]]),
                      tables_oracle.connects(target, rows, [kinds[0], kinds[-1]]))
        if right:
            self.assertEqual(needless(table), tables_oracle.needless(source, target, rows))


class NewTest(unittest.TestCase):

    def test_witnesses_share_no_lists(self):
        for source, target, rows in tables_oracle.some_tables(106, 40):
            table = tables_oracle.table_of(source, target, rows)
            one, other = judge(table), judge(table)
            if one is None:
                continue
            self.assertEqual(one.program, other.program)
            lists = [one.program, other.program, one.line, other.line, *one.program, *other.program]
            self.assertEqual(len({id(part) for part in lists}), len(lists))

    def test_surroundings_share_no_lists(self):
        random = Random(107)
        for _ in range(40):
            book = oracle.make(tables_oracle.some_book(random, ["a"]))
            for found in (exchange(book, "read", "write"), drop_read(book, "read", "acquire"),
                          drop_fence(book, "a", "full"), forward(book, "write", "read"),
                          exchange(book, "write", "read", same_cell=True)):
                if found is not None:
                    lists = [found.program, found.changed, found.line, *found.program, *found.changed]
                    self.assertEqual(len({id(part) for part in lists}), len(lists))

    def test_iterators_and_lists_of_a_table(self):
        table = tables_oracle.table_of((set(), {}, False, True), (set(), {}, False, True),
                                       {"read": ("read",), "full": ("full",)})
        names = list(table)
        names.clear()
        self.assertEqual(list(table), ["read", "full"])
        told = needless(table)
        told.append(("read", 0))
        self.assertEqual(needless(table), [("full", 0)])
