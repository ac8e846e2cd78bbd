"""Points 9 and 10 and keptpairs/tables.py, except for connects."""

import unittest
from itertools import permutations, product
from random import Random

from keptpairs.books import Book
from keptpairs.errors import InvalidProgram, InvalidRow, Mismatch, UnknownName
from keptpairs.pairs import KINDS, Pairs
from keptpairs.tables import Table, identity
from tests import oracle, tables_oracle
from tests.tables_oracle import fresh_book

SOURCE = fresh_book(fences={"sync": [], "also": [], "zz": []})
TARGET = fresh_book(fences={"a": [], "b": [], "c": []})

# What may not stand in the row of any kind, if "a", "b", "c" and "full" are the fences of the target.
NO_ROWS = [
    [], (), ["full"], ("a", "b"),
    ["read", "read"], ["read", "acquire"], ["write", "write"], ["write", "a", "release"], ["read", "write"],
    ["read", "a", "write"], ["read", "read", "a"],
    ["sync", "read"], ["read", "sync"], ["read", "also"], ["write", "zz"], ["d", "write"],
    ["Read"], ["reads"], ["read", ""], ["a", "read", "A"], ["write", "fence"],
    [None], ["read", None], [None, "write"], ["read", 0], ["read", True], ["write", ("a",)], [["read"]], [("read",)],
    [("read", 0)], ["read", ["a"]], [{}], ["write", {"a"}],
    "read", "full", "a", "", "write", None, 7, True, False, {"read": 1}, {"write"}, {"read", "a"}, b"read", 1.5,
]


def table_with(rows, source=SOURCE, target=TARGET):
    table = Table(source, target)
    for name in rows:
        table[name] = rows[name]
    return table


class RowsTest(unittest.TestCase):

    def test_a_new_table(self):
        table = Table(SOURCE, TARGET)
        self.assertIs(table.source, SOURCE)
        self.assertIs(table.target, TARGET)
        self.assertEqual(list(table), [])
        for name in KINDS + SOURCE.names:
            with self.assertRaises(UnknownName) as caught:
                table[name]
            self.assertEqual(caught.exception.name, name)

    def test_rows_as_lists_and_as_tuples(self):
        for make in (list, tuple):
            table = Table(SOURCE, TARGET)
            table["read"] = make(["a", "acquire", "b"])
            table["release"] = make(["write"])
            table["sync"] = make(["c", "full"])
            table["full"] = make([])
            self.assertEqual(table["read"], ("a", "acquire", "b"))
            self.assertEqual(table["release"], ("write",))
            self.assertEqual(table["sync"], ("c", "full"))
            self.assertEqual(table["full"], ())
            for name in table:
                self.assertIs(type(table[name]), tuple)

    def test_normal_form(self):
        cases = [
            ("read", ["b", "a", "read", "full", "c"], ("a", "b", "read", "c", "full")),
            ("read", ["b", "b", "a", "b", "acquire", "a", "a"], ("a", "b", "acquire", "a")),
            ("write", ("write", "full", "c", "b", "a"), ("write", "a", "b", "c", "full")),
            ("write", ("full", "c", "b", "a", "release"), ("a", "b", "c", "full", "release")),
            ("release", ["full", "full", "full", "release", "full", "full"], ("full", "release", "full")),
            ("acquire", ["c", "read", "c"], ("c", "read", "c")),
            ("sync", ["full", "a", "full", "a"], ("a", "full")),
            ("full", ("c", "b", "c"), ("b", "c")),
        ]
        for name, row, normal in cases:
            with self.subTest(row):
                table = table_with({name: row})
                self.assertEqual(table[name], normal)
                table[name] = normal
                self.assertEqual(table[name], normal)

    def test_normal_form_of_every_order(self):
        for ahead in permutations(["full", "a", "c"]):
            for behind in permutations(["b", "a"]):
                table = table_with({"read": [*ahead, "a", "read", *behind, *behind]})
                self.assertEqual(table["read"], ("a", "c", "full", "read", "a", "b"))

    def test_a_row_set_anew(self):
        table = table_with({"read": ["a", "read"], "sync": ["a"], "write": ["write"]})
        table["read"] = ["acquire", "b"]
        table["sync"] = []
        self.assertEqual(table["read"], ("acquire", "b"))
        self.assertEqual(table["sync"], ())
        self.assertEqual(table["write"], ("write",))
        self.assertEqual(list(table), ["read", "write", "sync"])

    def test_iteration_in_name_order(self):
        rows = {"read": ["read"], "acquire": ["read"], "write": ["write"], "release": ["write"],
                "also": [], "full": [], "sync": [], "zz": []}
        expected = ["read", "acquire", "write", "release", "also", "full", "sync", "zz"]
        random = Random(9)
        for _ in range(40):
            names = random.sample(expected, random.randrange(9))
            table = table_with({name: rows[name] for name in names})
            self.assertEqual(list(table), [name for name in expected if name in names])
            self.assertEqual([list(table), list(table)], [list(table)] * 2)
            self.assertEqual([name in table for name in expected], [name in names for name in expected])

    def test_rows_may_be_set_while_the_table_is_iterated(self):
        table = table_with({"read": ["read"], "write": ["write"], "sync": []})
        seen = []
        for name in table:
            seen.append(name)
            table["release"] = ["release"]
            table["also"] = []
            table[name] = table[name]
        self.assertEqual(seen, ["read", "write", "sync"])
        self.assertEqual(list(table), ["read", "write", "release", "also", "sync"])

    def test_each_kind_of_each_direction(self):
        table = Table(SOURCE, TARGET)
        for name, kind in product(KINDS, KINDS):
            if oracle.is_read(name) == oracle.is_read(kind):
                table[name] = ["full", kind, "a"]
                self.assertEqual(table[name], ("full", kind, "a"))
            else:
                with self.assertRaises(InvalidRow):
                    table[name] = [kind]

    def test_the_same_name_in_both_books(self):
        source = fresh_book(fences={"a": []})
        target = fresh_book(fences={"b": []})
        table = Table(source, target)
        table["a"] = ["b", "full"]
        self.assertEqual(table["a"], ("b", "full"))
        with self.assertRaises(InvalidRow):
            table["a"] = ["a"]
        with self.assertRaises(UnknownName):
            table["b"] = ["b"]


class RefusedTest(unittest.TestCase):

    def assert_refused(self, table, name, row, error):
        before = tables_oracle.rows_of(table)
        with self.assertRaises(error) as caught:
            table[name] = row
        self.assertEqual(caught.exception.name, name)
        self.assertEqual(tables_oracle.rows_of(table), before)
        self.assertEqual(list(table), list(before))

    def tables(self):
        return [Table(SOURCE, TARGET),
                table_with({"read": ["a", "read"], "write": ["write"], "full": ["full"], "sync": []})]

    def test_rows_that_no_kind_may_have(self):
        for table, row in product(self.tables(), NO_ROWS):
            for name in KINDS:
                with self.subTest(name=name, row=row):
                    self.assert_refused(table, name, row, InvalidRow)

    def test_a_kind_of_the_other_direction(self):
        for table in self.tables():
            for name, kind in product(KINDS, KINDS):
                if oracle.is_read(name) != oracle.is_read(kind):
                    for row in ([kind], (kind, "full"), ["a", kind, "b"]):
                        self.assert_refused(table, name, row, InvalidRow)

    def test_rows_that_no_fence_may_have(self):
        for table in self.tables():
            for row in NO_ROWS + [[kind] for kind in KINDS] + [["full", kind] for kind in KINDS]:
                if row in ([], (), ["full"], ("a", "b")):
                    continue
                for name in SOURCE.names:
                    with self.subTest(name=name, row=row):
                        self.assert_refused(table, name, row, InvalidRow)

    def test_names_that_are_neither_a_kind_nor_a_fence_of_the_source(self):
        for table in self.tables():
            for name in ("a", "b", "c", "", "Read", "reads", "fence", "syn", "sync ", None, 0, True):
                for row in (["read"], ["write"], [], ["full"], ["a"], ["read", "write"], None, "read", ["sync"]):
                    with self.subTest(name=name, row=row):
                        self.assert_refused(table, name, row, UnknownName)

    def test_a_name_without_a_row_stays_one(self):
        table = Table(SOURCE, TARGET)
        with self.assertRaises(InvalidRow):
            table["read"] = ["write"]
        with self.assertRaises(UnknownName):
            table["read"]
        with self.assertRaises(UnknownName):
            table["nothing"]


class CompileTest(unittest.TestCase):

    ROWS = {"read": ["a", "acquire", "full"], "write": ["write"], "release": ["b", "a", "write"],
            "full": ["full", "c"], "sync": []}

    def test_each_word_stands_for_its_row(self):
        table = table_with(self.ROWS)
        program = [[("read", 3), ("full",), ("write", 4, 9)], [], [("sync",), ("release", 0, 10 ** 9), ("sync",)]]
        self.assertEqual(table(program), [
            [("a",), ("acquire", 3), ("full",), ("c",), ("full",), ("write", 4, 9)],
            [],
            [("a",), ("b",), ("write", 0, 10 ** 9)],
        ])

    def test_several_fences_and_one_fence_on_both_sides(self):
        table = table_with({"read": ["c", "a", "full", "read", "b", "full", "a"], "full": ["full", "a", "b", "c"]})
        self.assertEqual(table([[("read", 1), ("full",), ("read", 2)]]), [[
            ("a",), ("c",), ("full",), ("read", 1), ("a",), ("b",), ("full",),
            ("a",), ("b",), ("c",), ("full",),
            ("a",), ("c",), ("full",), ("read", 2), ("a",), ("b",), ("full",)]])

    def test_empty_threads_and_programs_without_accesses(self):
        table = table_with(self.ROWS)
        for program in ([], [[]], [[], [], [], []]):
            self.assertEqual(table(program), program)
        self.assertEqual(table([[("sync",)], [("sync",), ("sync",)]]), [[], []])
        self.assertEqual(table([[], [("full",)]]), [[], [("c",), ("full",)]])

    def test_lists_of_lists_of_tuples(self):
        compiled = table_with(self.ROWS)([[("read", 1), ("full",)], []])
        self.assertEqual([type(compiled)] + [type(thread) for thread in compiled], [list] * 3)
        self.assertEqual({type(word) for thread in compiled for word in thread}, {tuple})

    def test_accesses_keep_their_names(self):
        table = table_with({"read": ["full", "read", "a"], "write": ["a", "release"], "sync": ["b", "c"]})
        program = [[("sync",), ("read", 0), ("write", 1, 5)], [("write", 0, 6), ("sync",), ("sync",), ("read", 1)]]
        compiled = table(program)
        self.assertEqual(sorted(oracle.named(compiled)), sorted(oracle.named(program)))
        for name, (thread, index) in oracle.named(program).items():
            there, place = oracle.named(compiled)[name]
            self.assertEqual(compiled[there][place][1:], program[thread][index][1:])

    def test_against_a_second_reading(self):
        random = Random(10)
        for source, target, rows in tables_oracle.some_tables(1010, 150):
            table = tables_oracle.table_of(source, target, rows)
            kinds = [name for name in rows if name in KINDS]
            program = oracle.some_program(random, tables_oracle.fences_of(source), random.randrange(8), 4)
            known = [[word for word in thread if word[0] in rows] for thread in program]
            self.assertEqual(table(known), tables_oracle.compiled(rows, known))
            self.assertTrue(kinds)

    def test_without_a_row(self):
        table = table_with({"read": ["read"], "sync": ["a"]})
        cases = [
            ([[("read", 0), ("write", 0, 1)], [("acquire", 0)]], "write"),
            ([[("read", 0)], [("sync",), ("acquire", 0), ("write", 0, 1)]], "acquire"),
            ([[], [], [("full",)]], "full"),
            ([[("sync",), ("zz",), ("full",)]], "zz"),
            ([[("read", 0), ("a",)]], "a"),
            ([[("other",)], [("write", 0, 1)]], "other"),
        ]
        for program, name in cases:
            with self.subTest(program):
                with self.assertRaises(UnknownName) as caught:
                    table(program)
                self.assertEqual(caught.exception.name, name)

    def test_invalid_programs_come_first(self):
        table = table_with({"read": ["read"]})
        cases = [
            ([[("read", 10)]], 0, 0),
            ([[("write", 0, 1)], [("read", 0), ("read",)]], 1, 1),
            ([[("full",), ("other",)], [], [("write", 0, 0)]], 2, 0),
            ([[("read", 0), None]], 0, 1),
            ([[("read", True)]], 0, 0),
        ]
        for program, thread, index in cases:
            with self.subTest(program):
                with self.assertRaises(InvalidProgram) as caught:
                    table(program)
                self.assertEqual((caught.exception.thread, caught.exception.index), (thread, index))

    def test_the_program_is_left_alone_and_the_answer_is_new(self):
        table = table_with(self.ROWS)
        program = [[("read", 0), ("sync",)], [("write", 1, 2)]]
        compiled = table(program)
        expected = [[("a",), ("acquire", 0), ("full",)], [("write", 1, 2)]]
        self.assertEqual(compiled, expected)
        self.assertEqual(program, [[("read", 0), ("sync",)], [("write", 1, 2)]])
        compiled[0].clear()
        compiled.append([])
        program[1].append(("read", 3))
        self.assertEqual(table([[("read", 0), ("sync",)], [("write", 1, 2)]]), expected)
        plain = table_with({"read": ["read"]})
        program = [[("read", 0)]]
        again = plain(program)
        again[0].append(("read", 1))
        self.assertEqual(program, [[("read", 0)]])


class WidenTest(unittest.TestCase):

    def test_fences_on_their_sides(self):
        table = table_with({"read": ["b", "read"], "write": ["write", "a"], "sync": ["c"], "full": []})
        more = table_with({"read": ["a", "b", "read", "c"], "write": ["full", "write"], "sync": ["a"], "full": []})
        same = table
        table |= more
        self.assertIs(table, same)
        self.assertEqual(tables_oracle.rows_of(table), {
            "read": ("a", "b", "read", "c"), "write": ("full", "write", "a"), "full": (), "sync": ("a", "c")})
        self.assertEqual(list(table), ["read", "write", "full", "sync"])
        self.assertEqual(tables_oracle.rows_of(more), {
            "read": ("a", "b", "read", "c"), "write": ("full", "write"), "full": (), "sync": ("a",)})

    def test_rows_in_one_table_only(self):
        one = {"read": ["read"], "write": ["write"], "full": [], "sync": []}
        for name in one:
            less = {other: row for other, row in one.items() if other != name}
            for mine, theirs in ((one, less), (less, one)):
                table, more = table_with(mine), table_with({key: [*row, "a"] for key, row in theirs.items()})
                before = tables_oracle.rows_of(table)
                with self.assertRaises(Mismatch) as caught:
                    table |= more
                self.assertEqual(caught.exception.name, name)
                self.assertEqual(tables_oracle.rows_of(table), before)

    def test_different_kinds(self):
        table = table_with({"read": ["read"], "acquire": ["acquire"], "write": ["release"], "sync": []})
        for name, kind in (("read", "acquire"), ("acquire", "read"), ("write", "write")):
            rows = {**tables_oracle.rows_of(table), name: ("a", kind, "a"), "sync": ("a",)}
            before = tables_oracle.rows_of(table)
            with self.assertRaises(Mismatch) as caught:
                table |= table_with(rows)
            self.assertEqual(caught.exception.name, name)
            self.assertEqual(tables_oracle.rows_of(table), before)

    def test_the_first_name_in_name_order(self):
        table = table_with({"zz": [], "release": ["write"], "acquire": ["read"]})
        cases = [
            ({"zz": [], "release": ["release"], "acquire": ["acquire"]}, "acquire"),
            ({"zz": [], "release": ["release"], "acquire": ["read"], "also": []}, "release"),
            ({"zz": [], "release": ["write"], "acquire": ["read"], "also": [], "sync": []}, "also"),
            ({"release": ["write"], "acquire": ["read"]}, "zz"),
            ({"zz": [], "read": ["read"]}, "read"),
            ({"zz": []}, "acquire"),
            ({}, "acquire"),
        ]
        for rows, name in cases:
            with self.subTest(rows):
                with self.assertRaises(Mismatch) as caught:
                    table |= table_with(rows)
                self.assertEqual(caught.exception.name, name)
        self.assertEqual(tables_oracle.rows_of(table), {"acquire": ("read",), "release": ("write",), "zz": ()})

    def test_the_table_itself(self):
        table = table_with({"read": ["a", "read", "b"], "sync": ["c"]})
        before = tables_oracle.rows_of(table)
        same = table
        table |= table
        self.assertIs(table, same)
        self.assertEqual(tables_oracle.rows_of(table), before)
        empty = Table(SOURCE, TARGET)
        empty |= empty
        empty |= Table(SOURCE, TARGET)
        self.assertEqual(list(empty), [])

    def test_more_from_another_source(self):
        table = table_with({"read": ["read"], "sync": []})
        other = fresh_book(fences={"sync": [], "new": []})
        table |= table_with({"read": ["a", "read"], "sync": ["b"]}, source=other)
        self.assertEqual(tables_oracle.rows_of(table), {"read": ("a", "read"), "sync": ("b",)})
        with self.assertRaises(Mismatch) as caught:
            table |= table_with({"read": ["a", "read"], "new": [], "sync": ["b"]}, source=other)
        self.assertEqual(caught.exception.name, "new")

    def test_more_is_not_bound_to_the_table(self):
        table, more = table_with({"read": ["read"]}), table_with({"read": ["a", "read"]})
        table |= more
        more["read"] = ["read", "b"]
        more["write"] = ["write"]
        self.assertEqual(tables_oracle.rows_of(table), {"read": ("a", "read")})
        table["read"] = ["acquire"]
        self.assertEqual(tables_oracle.rows_of(more), {"read": ("read", "b"), "write": ("write",)})

    def test_something_else(self):
        table = table_with({"read": ["read"]})
        with self.assertRaises(TypeError):
            table |= {"read": ("a", "read")}
        self.assertEqual(table["read"], ("read",))

    def test_against_a_second_reading(self):
        random = Random(11)
        for source, target, rows in tables_oracle.some_tables(1111, 100):
            table = tables_oracle.table_of(source, target, rows)
            more = {}
            for name, row in rows.items():
                kinds = [word for word in row if word in KINDS]
                sides = [random.sample(tables_oracle.fences_of(target), random.randrange(2)) for _ in range(2)]
                more[name] = tuple(sides[0] + kinds + sides[1]) if kinds else tuple(sides[0])
            table |= tables_oracle.table_of(source, target, more)
            for name in rows:
                for place in (0, 1):
                    self.assertEqual(self.side(table[name], place),
                                     sorted(set(self.side(rows[name], place)) | set(self.side(more[name], place))))
                self.assertEqual([word for word in table[name] if word in KINDS],
                                 [word for word in rows[name] if word in KINDS])

    def side(self, row, place):
        kinds = [k for k, word in enumerate(row) if word in KINDS]
        at = kinds[0] if kinds else len(row)
        return list(row[at + 1:] if place else row[:at])


class ThenTest(unittest.TestCase):

    LAST = fresh_book(fences={"x": [], "y": []})

    def second(self, rows):
        return table_with(rows, source=TARGET, target=self.LAST)

    def test_word_by_word(self):
        table = table_with({"read": ["a", "acquire", "b"], "write": ["write"], "full": ["a", "full"], "sync": []})
        second = self.second({"acquire": ["x", "read"], "write": ["y", "release", "full"], "a": ["y"],
                              "b": ["full", "x"], "full": []})
        joined = table.then(second)
        self.assertIs(type(joined), Table)
        self.assertEqual(tables_oracle.rows_of(joined), {
            "read": ("x", "y", "read", "full", "x"), "write": ("y", "release", "full"), "full": ("y",), "sync": ()})
        self.assertEqual(list(joined), ["read", "write", "full", "sync"])
        self.assertIs(joined.source, SOURCE)
        self.assertIs(joined.target, self.LAST)

    def test_rows_are_in_normal_form(self):
        table = table_with({"read": ["a", "b", "full", "read", "c"], "sync": ["a", "b", "c"]})
        second = self.second({"read": ["y", "x", "acquire", "full"], "a": ["y"], "b": ["x", "y"], "c": ["full", "x"],
                              "full": []})
        joined = table.then(second)
        self.assertEqual(joined["read"], ("x", "y", "acquire", "full", "x"))
        self.assertEqual(joined["sync"], ("full", "x", "y"))

    def test_words_without_a_row(self):
        table = table_with({"read": ["a", "read", "b"], "write": ["c", "write"], "full": ["full"]})
        every = {"read": ["read"], "write": ["write"], "a": [], "b": [], "c": [], "full": []}
        for missing, told in ((["read"], "read"), (["b", "read"], "read"), (["b", "c"], "b"), (["write", "c"], "c"),
                              (["full", "write"], "write"), (["full"], "full"), (["a", "full"], "a"),
                              (list(every), "a")):
            second = self.second({name: row for name, row in every.items() if name not in missing})
            before = tables_oracle.rows_of(table)
            with self.subTest(missing):
                with self.assertRaises(UnknownName) as caught:
                    table.then(second)
                self.assertEqual(caught.exception.name, told)
                self.assertEqual(tables_oracle.rows_of(table), before)

    def test_words_that_do_not_occur_need_no_row(self):
        table = table_with({"read": ["read"], "sync": []})
        self.assertEqual(tables_oracle.rows_of(table.then(self.second({"read": ["acquire"]}))),
                         {"read": ("acquire",), "sync": ()})
        self.assertEqual(list(Table(SOURCE, TARGET).then(self.second({}))), [])

    def test_the_joined_table_is_new(self):
        table = table_with({"read": ["read"]})
        second = self.second({"read": ["acquire"]})
        joined = table.then(second)
        joined["read"] = ["x", "read"]
        joined["write"] = ["write"]
        self.assertEqual(tables_oracle.rows_of(table), {"read": ("read",)})
        self.assertEqual(tables_oracle.rows_of(second), {"read": ("acquire",)})
        again = table.then(second)
        self.assertIsNot(again, joined)
        self.assertEqual(again["read"], ("acquire",))
        second["read"] = ["read", "y"]
        self.assertEqual(again["read"], ("acquire",))
        self.assertEqual(table.then(second)["read"], ("read", "y"))

    def test_joined_tables_compile_as_the_two_after_each_other(self):
        random = Random(12)
        for source, middle, rows in tables_oracle.some_tables(1212, 100):
            last = tables_oracle.some_book(random, ["x"])
            names = list(KINDS) + tables_oracle.fences_of(middle)
            more = {name: tables_oracle.some_row(random, name, last, 0.4) for name in names}
            table = tables_oracle.table_of(source, middle, rows)
            second = tables_oracle.table_of(middle, last, more)
            joined = table.then(second)
            for name in rows:
                word = [(name,)] if name not in KINDS else [(name, 1) if oracle.is_read(name) else (name, 1, 2)]
                twice = second(table([word]))[0]
                at = [k for k, part in enumerate(twice) if len(part) > 1] or [len(twice)]
                normal = (sorted(set(twice[:at[0]])) + twice[at[0]:at[0] + 1] + sorted(set(twice[at[0] + 1:])))
                self.assertEqual(joined([word])[0], normal)


class IdentityTest(unittest.TestCase):

    def test_without_names(self):
        one = fresh_book(fences={"b": [], "c": [], "only": []})
        other = fresh_book(fences={"c": [], "aa": [], "b": []})
        table = identity(one, other)
        self.assertIs(type(table), Table)
        self.assertIs(table.source, one)
        self.assertIs(table.target, other)
        self.assertEqual(list(table), ["read", "acquire", "write", "release", "b", "c", "full"])
        for name in table:
            self.assertEqual(table[name], (name,))
        self.assertEqual(list(identity(one, other, names=None)), list(table))

    def test_with_names(self):
        for names in ([], (), ["full"], ("write", "read"), ["full", "acquire", "read"], ["read", "read", "full"],
                      ["sync", "full", "release"]):
            table = identity(SOURCE, SOURCE, names=names)
            self.assertEqual(list(table), tables_oracle.in_name_order(names))
            for name in names:
                self.assertEqual(table[name], (name,))

    def test_names_that_are_not_in_both_books(self):
        one = fresh_book(fences={"both": [], "mine": []})
        other = fresh_book(fences={"both": [], "yours": []})
        cases = [(["mine"], "mine"), (["yours"], "yours"), (["read", "both", "yours", "mine"], "yours"),
                 (["mine", "yours"], "mine"), (["read", "Read"], "Read"), (["full", ""], ""),
                 (("none", "read"), "none")]
        for names, told in cases:
            with self.subTest(names):
                with self.assertRaises(UnknownName) as caught:
                    identity(one, other, names=names)
                self.assertEqual(caught.exception.name, told)

    def test_names_go_by_keyword(self):
        with self.assertRaises(TypeError):
            identity(SOURCE, TARGET, ["read"])

    def test_a_program_stays_as_it_is(self):
        table = identity(SOURCE, SOURCE)
        program = [[("read", 0), ("sync",), ("write", 1, 2)], [("full",)], []]
        self.assertEqual(table(program), program)
        self.assertIsNot(table(program)[0], program[0])

    def test_two_identities_share_nothing(self):
        one, other = identity(SOURCE, TARGET), identity(SOURCE, TARGET)
        one["read"] = ["acquire"]
        self.assertEqual(other["read"], ("read",))


class CopyTest(unittest.TestCase):

    def test_what_is_passed_may_change_afterwards(self):
        table = Table(SOURCE, TARGET)
        row, fences = ["b", "read", "a"], ["c"]
        table["read"] = row
        table["sync"] = fences
        self.assertEqual((row, fences), (["b", "read", "a"], ["c"]))
        row.reverse()
        row.append("full")
        fences.clear()
        self.assertEqual(table["read"], ("b", "read", "a"))
        self.assertEqual(table["sync"], ("c",))
        names = ["read", "full"]
        same = identity(SOURCE, TARGET, names=names)
        self.assertEqual(names, ["read", "full"])
        names.append("write")
        self.assertEqual(list(same), ["read", "full"])

    def test_tables_over_the_same_books_share_no_rows(self):
        one, other = Table(SOURCE, TARGET), Table(SOURCE, TARGET)
        one["read"] = ["read"]
        self.assertEqual(list(other), [])
        self.assertEqual(SOURCE.names, ("also", "full", "sync", "zz"))
        self.assertEqual(SOURCE.kept, Pairs())
        self.assertIs(type(SOURCE), Book)
