"""Point 11: connects, the steps that are lost, and must_keep."""

import unittest
from itertools import product
from random import Random

from keptpairs.books import Book
from keptpairs.errors import NotKept
from keptpairs.judging import lost, must_keep
from keptpairs.pairs import KINDS, READS, WRITES, Pairs
from keptpairs.tables import Table, identity
from tests import oracle, tables_oracle
from tests.tables_oracle import fresh_book

NO_PAIR = fresh_book(fences={"f": oracle.EVERY, "g": [("read", "write")], "none": []}, early=True, coherent=False)


def table_with(rows, source, target):
    table = Table(source, target)
    for name in rows:
        table[name] = rows[name]
    return table


class ConnectsTest(unittest.TestCase):

    def test_a_kept_pair(self):
        for kept in oracle.EVERY:
            target = Book(Pairs([kept]), early=True, coherent=False)
            table = identity(target, target)
            for a, b in product(KINDS, KINDS):
                self.assertIs(table.connects([a, b]), (a, b) == kept)
                self.assertIs(table.connects((a, "read", "write", b)), (a, b) == kept)

    def test_the_kinds_in_the_rows_count(self):
        target = Book(Pairs([("acquire", "write")]))
        table = table_with({"read": ["acquire"], "release": ["write"], "acquire": ["read"]}, target, target)
        self.assertIs(table.connects(["read", "release"]), True)
        self.assertIs(table.connects(["acquire", "release"]), False)
        self.assertIs(table.connects(["release", "read"]), False)

    def test_fences_ahead_of_the_first_kind_and_behind_the_last_do_not_count(self):
        for rows, answer in (
            ({"read": ["f", "read"], "write": ["write", "f"]}, False),
            ({"read": ["f", "read", "none"], "write": ["none", "write", "f"]}, False),
            ({"read": ["read", "f"], "write": ["write"]}, True),
            ({"read": ["read"], "write": ["f", "write"]}, True),
            ({"read": ["read", "none"], "write": ["g", "none", "write"]}, True),
        ):
            table = table_with(rows, NO_PAIR, NO_PAIR)
            self.assertIs(table.connects(["read", "write"]), answer, rows)

    def test_everything_between_counts(self):
        plain = {"read": ["read"], "write": ["write"], "f": [], "acquire": ["acquire"]}
        names = ["read", "acquire", "f", "write"]
        self.assertIs(table_with(plain, NO_PAIR, NO_PAIR).connects(names), False)
        for name, row in (("f", ["f"]), ("f", ["g", "none"]), ("acquire", ["f", "acquire"]),
                          ("acquire", ["acquire", "g"]), ("read", ["read", "f"]), ("write", ["g", "write"])):
            table = table_with({**plain, name: row}, NO_PAIR, NO_PAIR)
            self.assertIs(table.connects(names), True, (name, row))
        for name, row in (("read", ["f", "read"]), ("write", ["write", "f"]), ("f", ["none"]),
                          ("acquire", ["none", "acquire", "none"])):
            table = table_with({**plain, name: row}, NO_PAIR, NO_PAIR)
            self.assertIs(table.connects(names), False, (name, row))

    def test_one_name_twice(self):
        table = table_with({"read": ["f", "read"]}, NO_PAIR, NO_PAIR)
        self.assertIs(table.connects(["read", "read"]), True)
        table["read"] = ["read", "f"]
        self.assertIs(table.connects(["read", "read"]), True)
        table["read"] = ["none", "read", "g"]
        self.assertIs(table.connects(["read", "read"]), False)

    def test_several_fences_do_not_connect_together_what_none_connects(self):
        target = fresh_book(fences={"f": [("read", "read")], "g": [("write", "write")]})
        table = table_with({"read": ["read", "f"], "write": ["g", "write"]}, target, target)
        self.assertIs(table.connects(["read", "write"]), False)

    def test_a_chain_in_the_target_does_not_count(self):
        target = Book(Pairs([("read", "acquire"), ("acquire", "write")]))
        table = identity(target, target)
        self.assertIs(table.connects(["read", "acquire", "write"]), False)

    def test_the_flags_do_not_matter(self):
        for early, coherent in product([False, True], [False, True]):
            target = Book(Pairs(), early=early, coherent=coherent)
            table = identity(target, target)
            for a, b in product(KINDS, KINDS):
                self.assertIs(table.connects([a, b]), False)

    def test_lists_of_two_to_seven_names(self):
        random = Random(7)
        for source, target, rows in tables_oracle.some_tables(77, 200):
            table = tables_oracle.table_of(source, target, rows)
            kinds = [name for name in rows if name in KINDS]
            for many in range(2, 8):
                names = [random.choice(kinds)] + [random.choice(list(rows)) for _ in range(many - 2)]
                names.append(random.choice(kinds))
                answer = tables_oracle.connects(target, rows, names)
                self.assertIs(table.connects(names), answer)
                self.assertIs(table.connects(tuple(names)), answer)

    def test_what_is_passed_is_left_alone(self):
        names = ["read", "f", "write"]
        identity(NO_PAIR, NO_PAIR).connects(names)
        self.assertEqual(names, ["read", "f", "write"])


class LostTest(unittest.TestCase):

    def test_pair_steps_by_kept_pairs_and_by_fences(self):
        source = fresh_book([("read", "write")], fences={"s": [("read", "write"), ("write", "read")], "e": []},
                            early=True, coherent=False)
        target = fresh_book(early=True, coherent=False)
        table = table_with({"read": ["read"], "write": ["write"], "s": [], "e": []}, source, target)
        # The pair that is kept anyway is no step of the fence as well.
        self.assertEqual(lost(table), [("pair", "read", None, "write"), ("pair", "write", "s", "read")])
        table["read"] = ["read", "full"]
        self.assertEqual(lost(table), [("pair", "write", "s", "read")])
        table["s"] = ["full"]
        self.assertEqual(lost(table), [])

    def test_full_is_a_fence_like_the_others(self):
        source = fresh_book([("write", "write")], early=True, coherent=False)
        table = table_with({"write": ["write"], "release": ["write"], "full": []}, source, fresh_book(coherent=False))
        self.assertEqual(lost(table), [
            ("pair", "write", None, "write"), ("pair", "write", "full", "release"),
            ("pair", "release", "full", "write"), ("pair", "release", "full", "release")])

    def test_reads_steps(self):
        for coherent, still in product([False, True], [False, True]):
            source = fresh_book(early=True, coherent=coherent)
            table = identity(source, fresh_book(early=True, coherent=still), names=["read", "acquire", "write"])
            steps = [("reads", a, b) for a, b in product(READS, READS)] if coherent and not still else []
            self.assertEqual(lost(table), steps)
        table = table_with({"read": ["read", "full"], "acquire": ["acquire"]}, fresh_book(), fresh_book(coherent=False))
        self.assertEqual(lost(table), [("reads", "acquire", "read"), ("reads", "acquire", "acquire")])
        table = identity(fresh_book(), fresh_book([("read", "acquire")], coherent=False), names=READS)
        self.assertEqual(lost(table), [("reads", "read", "read"), ("reads", "acquire", "read"),
                                       ("reads", "acquire", "acquire")])

    def test_own_steps(self):
        source = fresh_book([("read", "write")], fences={"s": [("read", "read")]}, early=False, coherent=False)
        target = fresh_book([("read", "write"), ("read", "read")], early=True, coherent=False)
        rows = {"read": ["read"], "write": ["write"], "s": []}
        table = table_with(rows, source, target)
        own = [("own", "write", "read", None, "write"), ("own", "write", "read", "s", "read")]
        self.assertEqual(lost(table), own)
        # A target that is not early, one that keeps w before e, or one that keeps w before r.
        self.assertEqual(lost(table_with(rows, source, fresh_book(target.kept, early=False))), [])
        self.assertEqual(lost(table_with(rows, source, fresh_book(list(target.kept) + [("write", "write")], early=True,
                                                                  coherent=False))), own[1:])
        self.assertEqual(lost(table_with(rows, source, fresh_book(list(target.kept) + [("write", "read")], early=True,
                                                                  coherent=False))), [])
        self.assertEqual(lost(table_with({**rows, "write": ["write", "full"]}, source, target)), [])
        self.assertEqual(lost(table_with({**rows, "read": ["read", "full"]}, source, target)), [])
        self.assertEqual(lost(table_with({**rows, "s": ["full"]}, source, target)), own[:1])

    def test_no_own_step_of_a_source_that_is_early(self):
        source = fresh_book([("read", "write")], early=True, coherent=False)
        self.assertEqual(lost(identity(source, fresh_book([("read", "write")], early=True, coherent=False))), [])

    def test_the_told_order(self):
        source = fresh_book([("acquire", "read"), ("read", "release"), ("release", "acquire")],
                            fences={"aa": [("read", "read"), ("write", "write")], "zz": oracle.EVERY})
        target = fresh_book(early=True, coherent=False)
        rows = {name: [name] if name in KINDS else [] for name in KINDS + ("zz", "full", "aa")}
        told = lost(table_with(rows, source, target))
        self.assertEqual(told, sorted(told, key=tables_oracle.place_in_order))
        self.assertEqual(told[:4], [
            ("pair", "read", None, "release"), ("pair", "read", "aa", "read"),
            ("pair", "read", "full", "read"), ("pair", "read", "full", "acquire")])
        groups = [step[0] for step in told]
        self.assertEqual(sorted(set(groups), key=groups.index), ["pair", "reads", "own"])
        self.assertEqual([step for step in told if step[0] == "reads"],
                         [("reads", a, b) for a, b in product(READS, READS)])

    def test_only_names_with_rows(self):
        source = fresh_book(oracle.EVERY)
        target = fresh_book(early=True, coherent=False)
        self.assertEqual(lost(Table(source, target)), [])
        self.assertEqual(lost(table_with({"full": []}, source, target)), [])
        self.assertEqual(lost(table_with({"write": ["write"]}, source, target)), [("pair", "write", None, "write")])
        self.assertEqual(lost(table_with({"read": ["read"]}, source, target)),
                         [("pair", "read", None, "read"), ("reads", "read", "read")])

    def test_lost_is_told_of_a_table_that_is_right_for_want_of_writes(self):
        table = table_with({"read": ["read"]}, Book.sequential(), fresh_book(early=True, coherent=False))
        self.assertEqual(len(lost(table)), 2)

    def test_against_a_second_reading(self):
        seen = set()
        for source, target, rows in tables_oracle.some_tables(1100, 400):
            told = lost(tables_oracle.table_of(source, target, rows))
            self.assertEqual(told, tables_oracle.lost(source, target, rows))
            seen.update((step[0], step[-2] is None) for step in told if step[0] != "reads")
            seen.update(step[0] for step in told if step[0] == "reads")
        self.assertEqual(len(seen), 5)

    def test_the_list_is_new(self):
        table = table_with({"write": ["write"]}, Book.sequential(), Book.relaxed())
        told = lost(table)
        self.assertIs(type(told), list)
        told.clear()
        self.assertEqual(lost(table), [("pair", "write", None, "write")])

    def test_asked_again_after_a_deed(self):
        table = table_with({"write": ["write"], "release": ["release"]}, Book.sequential(), Book.relaxed())
        self.assertEqual(lost(table), [("pair", "write", None, "write"), ("pair", "release", None, "write")])
        table["write"] = ["release"]
        self.assertEqual(lost(table), [])
        table["write"] = ["write"]
        table |= table_with({"write": ["full", "write"], "release": ["release"]}, Book.sequential(), Book.relaxed())
        self.assertEqual(lost(table), [])


class MustKeepTest(unittest.TestCase):

    def test_each_step_lost_or_not(self):
        many = 0
        for source, target, rows in tables_oracle.some_tables(1122, 60):
            table = tables_oracle.table_of(source, target, rows)
            gone = tables_oracle.lost(source, target, rows)
            for step in tables_oracle.steps(source, rows):
                if step not in gone:
                    self.assertIsNone(must_keep(table, step))
                    continue
                many += 1
                with self.assertRaises(NotKept) as caught:
                    must_keep(table, step)
                self.assertEqual(caught.exception.step, step)
                self.assertIs(type(caught.exception.step), tuple)
        self.assertGreater(many, 50)

    def test_a_lost_step_of_a_table_that_is_right(self):
        table = table_with({"read": ["read"]}, Book.sequential(), Book.relaxed())
        with self.assertRaises(NotKept):
            must_keep(table, ("reads", "read", "read"))

    def test_asked_again_after_a_deed(self):
        table = table_with({"write": ["write"]}, Book.sequential(), Book.relaxed())
        step = ("pair", "write", None, "write")
        with self.assertRaises(NotKept):
            must_keep(table, step)
        table["write"] = ["release"]
        self.assertIsNone(must_keep(table, step))
        self.assertEqual(WRITES, ("write", "release"))
