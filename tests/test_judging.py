"""Point 12 and keptpairs/judging.py, except for lost and must_keep."""

import unittest
from itertools import product
from random import Random

from keptpairs.books import Book
from keptpairs.errors import LetBy, NotKept, UnknownName
from keptpairs.judging import Witness, compare, judge, lost, require
from keptpairs.pairs import KINDS, READS, WRITES
from keptpairs.programs import check_program
from keptpairs.tables import Table, identity
from tests import oracle, tables_oracle
from tests.search import TableSearch, size
from tests.tables_oracle import fresh_book

LOOSE = fresh_book(early=True, coherent=False)


def table_with(rows, source, target):
    table = Table(source, target)
    for name in rows:
        table[name] = rows[name]
    return table


def same_rows(names, source, target):
    return table_with({name: (name,) for name in names}, source, target)


# Where a read is ahead of the own write, and no step begins with a write.
AROUND_KEPT = [("read", "write"), ("acquire", "read"), ("write", "write")]
AROUND = fresh_book(AROUND_KEPT[:2], coherent=False)

# For each form of point 12: its size and a table of which it is a smallest program.
FORMS = {
    "two reads, reads step": (3, same_rows(
        ["read", "write"], fresh_book(), fresh_book(coherent=False))),
    "two reads, pair step": (3, same_rows(
        ["acquire", "release"], fresh_book([("acquire", "acquire")], coherent=False), LOOSE)),
    "two reads, pair step of a fence": (3, table_with(
        {"read": ["read"], "acquire": ["acquire"], "write": ["write"], "full": []},
        fresh_book([("read", "read")], coherent=False), fresh_book([("read", "read")], coherent=False))),
    "write and read": (4, same_rows(
        ["read", "write"], fresh_book([("write", "read")]), fresh_book())),
    "read and write": (4, same_rows(
        ["read", "write"], fresh_book([("read", "write")]), fresh_book())),
    "two writes": (4, same_rows(
        ["write"], fresh_book([("write", "write")]), fresh_book())),
    "two reads and two writes": (4, same_rows(
        ["read", "write"], fresh_book([("read", "read"), ("write", "write")]), fresh_book([("write", "write")]))),
    "two reads, a write and a read": (5, same_rows(
        ["read", "write"], fresh_book([("read", "read"), ("write", "read")]), fresh_book([("write", "read")]))),
    "two reads, a read and a write": (5, same_rows(
        ["read", "write"], fresh_book([("read", "read"), ("read", "write")]), fresh_book([("read", "write")]))),
    "own write, then a write": (5, same_rows(
        ["read", "write"], fresh_book([("read", "write")]), fresh_book([("read", "write")], early=True))),
    "own write, then a read": (5, same_rows(
        ["read", "write"], fresh_book([("read", "read"), ("write", "write")]),
        fresh_book([("read", "read"), ("write", "write")], early=True))),
    "own write between two reads": (5, same_rows(
        ["read", "acquire", "write"], AROUND, fresh_book(AROUND_KEPT, early=True, coherent=False))),
    "own write between two reads, over fences": (5, table_with(
        {"read": ["read"], "acquire": ["acquire"], "write": ["write"], "s": ["u"], "t": ["v"]},
        fresh_book(fences={"s": [("acquire", "read")], "t": [("read", "write")]}, coherent=False),
        fresh_book([("write", "write")], fences={"u": [("acquire", "read")], "v": [("read", "write")]}, early=True,
                   coherent=False))),
    # The same tables where one thing stands against it.
    "own write between two reads, coherent": (6, same_rows(
        ["read", "acquire", "write"], AROUND, fresh_book(AROUND_KEPT, early=True))),
    "own write between two reads, the outer ones in order": (6, same_rows(
        ["read", "acquire", "write"], AROUND, fresh_book([("read", "read")] + AROUND_KEPT, early=True,
                                                         coherent=False))),
    "own write between two reads, the first ones in order": (6, same_rows(
        ["read", "acquire", "write"], AROUND, fresh_book([("read", "acquire")] + AROUND_KEPT, early=True,
                                                         coherent=False))),
    "own write between two reads, outer ones in order over the fence": (6, table_with(
        {"read": ["read"], "acquire": ["acquire"], "write": ["write"], "s": ["u"]},
        fresh_book([("read", "write")], fences={"s": [("acquire", "read")]}, coherent=False),
        fresh_book([("read", "write"), ("write", "write")], fences={"u": [("acquire", "read"), ("read", "read")]},
                   early=True, coherent=False))),
    "the other write between two reads": (6, same_rows(
        KINDS, fresh_book([("read", "release"), ("acquire", "read")], coherent=False),
        fresh_book([("read", "release"), ("acquire", "read"), ("release", "read"), ("release", "acquire"),
                    ("release", "release"), ("write", "release")], early=True, coherent=False))),
    "four reads": (6, same_rows(
        ["read", "write"], fresh_book([("read", "read")]), fresh_book())),
    "two own writes": (6, same_rows(
        ["read", "write"], fresh_book([("read", "read")]), fresh_book([("read", "read")], early=True))),
}


class WitnessCase(unittest.TestCase):

    def assert_witness(self, table, witness):
        self.assertIs(type(witness), Witness)
        program = witness.program
        self.assertIsNone(check_program(program))
        self.assertTrue(1 <= len(program) <= 4)
        self.assertEqual([type(program)] + [type(thread) for thread in program], [list] * (len(program) + 1))
        names = {word[0] for thread in program for word in thread}
        self.assertLessEqual(names, set(table))
        values = [word[2] for thread in program for word in thread if len(word) == 3]
        self.assertEqual(len(values), len(set(values)))
        self.assertLessEqual(size(program), 7)
        self.assertLessEqual(sum(len(thread) for thread in program), 20)
        compiled = tables_oracle.compiled(tables_oracle.rows_of(table), program)
        self.assertIs(type(witness.line), list)
        self.assertEqual(table.target.run(compiled, witness.line), witness.outcome)
        self.assertEqual(oracle.run(compiled, witness.line), witness.outcome)
        self.assertIs((program, witness.outcome) in table.source, False)
        self.assertIn(witness.step, lost(table))
        self.assertIs(type(witness.step), tuple)


class FormsTest(WitnessCase):

    def test_each_form(self):
        for form, (many, table) in FORMS.items():
            with self.subTest(form):
                witness = judge(table)
                self.assert_witness(table, witness)
                self.assertEqual(size(witness.program), many)

    def test_no_smaller_program_shows_it(self):
        for form, (many, table) in FORMS.items():
            with self.subTest(form):
                self.assertIsNone(TableSearch(table).first_shown(min(many - 1, 5 if len(list(table)) < 3 else 4)))

    def test_fences_do_not_count(self):
        # Three accesses and a fence against four accesses.
        source = fresh_book([("read", "write")], fences={"s": [("acquire", "acquire")]}, coherent=False)
        table = table_with({"read": ["read"], "acquire": ["acquire"], "write": ["write"], "s": []}, source,
                           fresh_book(coherent=False))
        self.assertEqual(size(judge(table).program), 3)

    def test_no_form_of_two_reads_is_a_row_short(self):
        # In a coherent target the two reads of one cell keep their order, whatever is lost.
        source = fresh_book([("read", "read"), ("write", "write")])
        table = same_rows(["read", "write"], source, fresh_book([("write", "write")]))
        self.assertEqual(size(judge(table).program), 4)
        table = same_rows(["read", "write"], source, fresh_book([("write", "write")], coherent=False))
        self.assertEqual(size(judge(table).program), 3)

    def test_a_step_with_a_fence_may_need_no_fence_beside_it(self):
        source = fresh_book([("write", "write")], fences={"s": [("read", "read")]})
        table = table_with({"read": ["read"], "release": ["write"], "write": ["write"], "s": []}, source,
                           fresh_book([("write", "write")]))
        witness = judge(table)
        self.assert_witness(table, witness)
        self.assertEqual(witness.step, ("pair", "read", "s", "read"))
        self.assertEqual(size(witness.program), 4)

    def test_own_step_over_fences(self):
        source = fresh_book(fences={"s": [("read", "read")], "t": [("acquire", "write")]}, coherent=False)
        target = fresh_book([("acquire", "write")], fences={"u": [("read", "read")]}, early=True, coherent=False)
        table = table_with({"read": ["read"], "acquire": ["acquire"], "write": ["write"], "s": ["u"], "t": []},
                           source, target)
        witness = judge(table)
        self.assert_witness(table, witness)
        self.assertEqual(witness.step[0], "own")
        self.assertEqual(size(witness.program), 5)
        self.assertIsNone(TableSearch(same_rows(["read", "acquire", "write"], source, target)).first_shown(4))


class JudgeTest(WitnessCase):

    def test_tables_that_are_right(self):
        books = [Book.sequential(), Book.buffered(), Book.relaxed(), LOOSE, fresh_book()]
        for book in books:
            self.assertIsNone(judge(identity(book, book)))
            self.assertIsNone(judge(Table(book, LOOSE)))
            self.assertIsNone(judge(identity(LOOSE, book)))
        full = {name: ("full", name, "full") for name in KINDS}
        for source, target in product(books, books):
            self.assertIsNone(judge(table_with({**full, "full": []}, source, target)))

    def test_the_ready_books(self):
        rows = {"read": ["acquire"], "acquire": ["acquire"], "write": ["release"], "release": ["release"], "full": []}
        table = table_with(rows, Book.buffered(), Book.relaxed())
        self.assert_witness(table, judge(table))
        rows = {"read": ["read"], "acquire": ["acquire"], "write": ["write", "full"], "release": ["release", "full"]}
        self.assertIsNone(judge(table_with(rows, Book.sequential(), Book.buffered())))
        rows["release"] = ["release"]
        table = table_with(rows, Book.sequential(), Book.buffered())
        self.assert_witness(table, judge(table))
        self.assertEqual(judge(table).step[1], "release")

    def test_names_without_a_write_kind(self):
        for names in (["read"], ["read", "acquire"], ["read", "full"], ["full"], []):
            table = table_with({name: (name,) if name in KINDS else () for name in names}, Book.sequential(), LOOSE)
            self.assertIsNone(judge(table))
            self.assertIsNone(require(table))
        table = table_with({"read": ["read"]}, Book.sequential(), LOOSE)
        self.assertTrue(lost(table))
        table["release"] = ["write"]
        self.assert_witness(table, judge(table))

    def test_names_without_a_read_kind(self):
        table = same_rows(["write", "release"], Book.sequential(), Book.relaxed())
        self.assert_witness(table, judge(table))
        self.assertEqual(size(judge(table).program), 4)
        self.assertIsNone(judge(table_with({"write": ["release"]}, Book.sequential(), Book.relaxed())))

    def test_names_without_fences(self):
        for names in (["read", "write"], ["acquire", "release", "write"], list(KINDS)):
            table = same_rows(names, Book.sequential(), Book.relaxed())
            self.assert_witness(table, judge(table))

    def test_one_write_kind_of_the_two(self):
        for write in WRITES:
            table = table_with({"read": ["read"], write: [write]}, fresh_book(), fresh_book(coherent=False))
            witness = judge(table)
            self.assert_witness(table, witness)
            self.assertEqual(witness.program[1][0][0], write)

    def test_against_a_second_reading(self):
        sizes = {}
        for source, target, rows in tables_oracle.some_tables(1200, 500):
            table = tables_oracle.table_of(source, target, rows)
            witness = judge(table)
            self.assertIs(witness is None, tables_oracle.is_right(source, target, rows))
            if witness is not None:
                self.assert_witness(table, witness)
                self.assertEqual(size(witness.program), tables_oracle.smallest_size(source, target, rows))
                sizes[size(witness.program)] = sizes.get(size(witness.program), 0) + 1
        self.assertGreater(min(sizes[3], sizes[4]), 30)

    def test_sizes_of_tables_that_keep_nearly_all_against_a_second_reading(self):
        random = Random(1201)
        sizes = {}
        for _ in range(2500):
            kinds = random.choice([["read", "write"], ["read", "acquire", "write"], list(KINDS)])
            kept = {pair for pair in oracle.EVERY if random.random() < random.choice([0.1, 0.3])}
            more = {pair for pair in oracle.EVERY if random.random() < random.choice([0, 0.1, 0.3])}
            less = set(random.sample(sorted(kept), min(len(kept), random.randrange(2))))
            source = (kept, {}, False, random.random() < 0.5)
            target = ((kept - less) | more, {}, True, random.random() < 0.5 or source[3])
            rows = {kind: (kind,) for kind in kinds}
            table = tables_oracle.table_of(source, target, rows)
            witness = judge(table)
            self.assertEqual(0 if witness is None else size(witness.program),
                             tables_oracle.smallest_size(source, target, rows))
            if witness is not None:
                self.assert_witness(table, witness)
                sizes[size(witness.program)] = sizes.get(size(witness.program), 0) + 1
        self.assertGreater(min(sizes[many] for many in (3, 4, 5, 6)), 10)

    def test_no_smaller_program_and_none_at_all_for_a_right_table(self):
        for source, target, rows in tables_oracle.some_tables(1202, 90):
            table = tables_oracle.table_of(source, target, rows)
            witness = judge(table)
            many = 3 if witness is None else size(witness.program) - 1
            if many > 3 and len(rows) > 3:
                continue
            with self.subTest(rows):
                self.assertIsNone(TableSearch(table).first_shown(many))

    def test_the_search_finds_what_there_is(self):
        for source, target, rows in tables_oracle.some_tables(1203, 10, ["read", "write"]):
            table = tables_oracle.table_of(source, target, rows)
            witness = judge(table)
            if witness is not None and size(witness.program) <= 4:
                self.assertEqual(size(TableSearch(table).first_shown(4)), size(witness.program))

    def test_asked_again_after_a_deed(self):
        table = same_rows(["read", "write"], Book.sequential(), Book.buffered())
        self.assertIsNotNone(judge(table))
        table["write"] = ["write", "full"]
        self.assertIsNone(judge(table))
        table["release"] = ["write"]
        self.assertEqual(judge(table).step, ("pair", "release", None, "read"))
        table |= table_with({"read": ["full", "read"], "write": ["write"], "release": ["write"]},
                            Book.sequential(), Book.buffered())
        self.assertIsNone(judge(table))

    def test_the_witness_is_new(self):
        table = same_rows(KINDS, Book.sequential(), Book.buffered())
        witness = judge(table)
        told = [[list(thread) for thread in witness.program], witness.outcome, list(witness.line), witness.step]
        witness.program[0].clear()
        witness.program.append([])
        witness.line.reverse()
        witness.step = None
        again = judge(table)
        self.assertEqual([again.program, again.outcome, again.line, again.step], told)
        self.assertEqual(tables_oracle.rows_of(table), {kind: (kind,) for kind in KINDS})


class CompareTest(WitnessCase):

    def test_the_ready_books(self):
        one, two, three = Book.sequential(), Book.buffered(), Book.relaxed()
        for weaker, stronger in ((one, one), (two, two), (three, three), (two, one), (three, one), (three, two)):
            self.assertIsNone(compare(weaker, stronger))
        for weaker, stronger, many in ((one, two, 4), (two, three, 3), (one, three, 3)):
            witness = compare(weaker, stronger)
            self.assert_witness(identity(weaker, stronger), witness)
            self.assertEqual(size(witness.program), many)

    def test_a_book_with_itself(self):
        for description in oracle.some_books(1200, 40):
            self.assertIsNone(compare(oracle.make(description), oracle.make(description)))

    def test_with_names(self):
        one, two = Book.sequential(), Book.buffered()
        self.assertIsNone(compare(one, two, names=["read", "acquire"]))
        self.assertIsNone(compare(one, two, names=("write", "release")))
        self.assertIsNone(compare(one, two, names=[]))
        witness = compare(one, two, names=["release", "read"])
        self.assert_witness(identity(one, two, names=["release", "read"]), witness)
        self.assertEqual(witness.step, ("pair", "release", None, "read"))

    def test_without_names_only_what_both_books_have_counts(self):
        one = fresh_book(fences={"a": oracle.EVERY, "b": [("write", "write")]}, early=True, coherent=False)
        two = fresh_book(fences={"b": [("write", "write")], "c": []}, early=True, coherent=False)
        self.assertIsNone(compare(one, two))
        self.assertIsNone(compare(two, one))
        less = fresh_book(fences={"b": []}, early=True, coherent=False)
        self.assertEqual(compare(one, less).step, ("pair", "write", "b", "write"))
        self.assertIsNone(compare(less, one))

    def test_names_that_are_not_in_both_books(self):
        one = fresh_book(fences={"a": []})
        for names, told in ((["a"], "a"), (["read", "x", "a"], "x")):
            with self.assertRaises(UnknownName) as caught:
                compare(one, fresh_book(), names=names)
            self.assertEqual(caught.exception.name, told)

    def test_names_go_by_keyword(self):
        with self.assertRaises(TypeError):
            compare(LOOSE, LOOSE, ["read"])

    def test_it_is_the_verdict_over_the_identity(self):
        random = Random(1204)
        for _ in range(150):
            one = oracle.make(tables_oracle.some_book(random, ["a"]))
            two = oracle.make(tables_oracle.some_book(random, ["a"]))
            witness, judged = compare(one, two), judge(identity(one, two))
            self.assertIs(witness is None, judged is None)
            if witness is not None:
                self.assert_witness(identity(one, two), witness)
                self.assertEqual(size(witness.program), size(judged.program))
            self.assertEqual(compare(one, two, names=READS), None)


class RequireTest(WitnessCase):

    def test_right_tables(self):
        self.assertIsNone(require(identity(Book.relaxed(), Book.sequential())))
        self.assertIsNone(require(Table(Book.sequential(), LOOSE)))

    def test_the_error_tells_a_witness_and_comes_from_its_step(self):
        many = 0
        for source, target, rows in tables_oracle.some_tables(1205, 80):
            table = tables_oracle.table_of(source, target, rows)
            if judge(table) is None:
                self.assertIsNone(require(table))
                continue
            many += 1
            with self.assertRaises(LetBy) as caught:
                require(table)
            witness = caught.exception.witness
            self.assert_witness(table, witness)
            self.assertEqual(size(witness.program), size(judge(table).program))
            cause = caught.exception.__cause__
            self.assertIs(type(cause), NotKept)
            self.assertEqual(cause.step, witness.step)
        self.assertGreater(many, 20)
