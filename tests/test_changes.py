"""Points 14 and 15 and keptpairs/changes.py."""

import unittest
from itertools import product
from random import Random

from keptpairs.books import Book
from keptpairs.changes import Surrounding, drop_fence, drop_read, drop_write, exchange, forward
from keptpairs.errors import UnknownName
from keptpairs.pairs import KINDS, READS, WRITES
from keptpairs.programs import check_program
from tests import changes_oracle, oracle, tables_oracle
from tests.search import ChangeSearch, as_objects, changed_pair, replaced, size, stated
from tests.tables_oracle import fresh_book

ASK = {
    "exchange": exchange,
    "near": lambda book, first, second: exchange(book, first, second, same_cell=True),
    "drop_read": drop_read,
    "drop_write": drop_write,
    "drop_fence": drop_fence,
    "forward": forward,
}


def facts(what, description, first, second):
    """Whether the change is right, as point 15 says."""
    if what in ("exchange", "near"):
        return changes_oracle.may_exchange(description, first, second, what == "near")
    ask = {"drop_read": changes_oracle.may_drop_read, "drop_write": changes_oracle.may_drop_write,
           "drop_fence": changes_oracle.may_drop_fence, "forward": changes_oracle.may_forward}
    return ask[what](description, first, second)


def choices(book):
    """All changes over the names of a book."""
    names = KINDS + book.names
    found = [("exchange", a, b) for a, b in product(names, names)]
    found += [("near", a, b) for a, b in product(KINDS, KINDS)]
    found += [("drop_read", a, b) for a, b in product(READS, READS)]
    found += [("drop_write", a, b) for a, b in product(WRITES, WRITES)]
    found += [("drop_fence", a, b) for a, b in product(book.names, book.names)]
    found += [("forward", a, b) for a, b in product(WRITES, READS)]
    return found


def some_books(seed, many, fences=(), early=None, coherent=None):
    random = Random(seed)
    return [tables_oracle.some_book(random, fences, early, coherent) for _ in range(many)]


class ChangeCase(unittest.TestCase):

    def assert_words(self, what, pair, words):
        self.assertEqual(tuple(word[0] for word in words), pair)
        if len(words[0]) > 1 and len(words[1]) > 1:
            self.assertIs(words[0][1] == words[1][1], what != "exchange")

    def assert_shows(self, book, what, first, second, found):
        self.assertIs(type(found), Surrounding)
        program, index = found.program, found.index
        for one in (program, found.changed):
            self.assertIsNone(check_program(one))
            self.assertEqual([type(one)] + [type(thread) for thread in one], [list] * (len(one) + 1))
            self.assertTrue(1 <= len(one) <= 4)
        self.assertLessEqual(size(program), 7)
        self.assertLessEqual(sum(len(thread) for thread in program), 20)
        self.assert_words(what, (first, second), program[0][index:index + 2])
        self.assertEqual(found.changed, replaced(what, program, index))
        values = [word[2] for thread in program for word in thread if len(word) == 3]
        self.assertEqual(len(values), len(set(values)))
        self.assertIs(type(found.line), list)
        outcome = book.run(found.changed, found.line)
        self.assertEqual(oracle.run(found.changed, found.line), outcome)
        self.assertIs(type(found.outcome), tuple)
        objects = as_objects(program)
        self.assertEqual(found.outcome, stated(what, objects, replaced(what, objects, index), index, outcome))
        self.assertIs((program, found.outcome) in book, False)

    def assert_change(self, description, what, first, second):
        book = oracle.make(description)
        found = ASK[what](book, first, second)
        self.assertIs(found is None, facts(what, description, first, second), (description, what, first, second))
        if found is None:
            return 0
        self.assert_shows(book, what, first, second, found)
        self.assertEqual(size(found.program), changes_oracle.smallest_size(what, description, first, second))
        return size(found.program)


class VerdictTest(ChangeCase):

    def test_every_choice_in_books_of_all_sorts(self):
        sizes = {}
        for early, coherent in product([False, True], [False, True]):
            for fences in ([], ["a"], ["a", "m"]):
                for description in some_books(1400 + len(fences), 6, fences, early, coherent):
                    for what, first, second in choices(oracle.make(description)):
                        many = self.assert_change(description, what, first, second)
                        sizes.setdefault(what, set()).add(many)
        self.assertEqual(sizes["near"], {0, 2, 3})
        self.assertEqual(sizes["exchange"], {0, 3, 4})
        self.assertEqual(sizes["drop_fence"], {0, 3, 4})
        self.assertEqual(sizes["drop_read"], {0, 4, 5})
        self.assertEqual(sizes["drop_write"], {0, 5})
        self.assertLessEqual({0, 5, 6}, sizes["forward"])

    def test_books_with_one_kept_pair_or_one_that_is_not(self):
        for pair, early, coherent in product(oracle.EVERY, [False, True], [False, True]):
            for kept in ({pair}, set(oracle.EVERY) - {pair}):
                description = (kept, {}, early, coherent)
                for what, first, second in choices(oracle.make(description)):
                    if what != "forward":
                        self.assert_change(description, what, first, second)

    def test_the_ready_books(self):
        every = set(oracle.EVERY)
        buffered = every - set(product(WRITES, READS))
        relaxed = {pair for pair in every if pair[0] == "acquire" or pair[1] == "release"}
        for description in ((every, {}, False, True), (buffered, {}, True, True), (relaxed, {}, True, False),
                            (set(), {}, True, False), (set(), {}, False, True)):
            for what, first, second in choices(oracle.make(description)):
                self.assert_change(description, what, first, second)

    def test_forward_in_books_of_all_sorts(self):
        sizes = {}
        for fences, many_books in (([], 110), (["a"], 40)):
            for description in some_books(1410 + len(fences), many_books, fences):
                for write, read in product(WRITES, READS):
                    many = self.assert_change(description, "forward", write, read)
                    sizes[many] = sizes.get(many, 0) + 1
        self.assertGreater(min(sizes[0], sizes[5], sizes[6]), 4)


class ExchangeTest(ChangeCase):

    def test_accesses_to_different_cells(self):
        for pair in oracle.EVERY:
            for a, b in oracle.EVERY:
                found = exchange(fresh_book([pair]), a, b)
                self.assertIs(found is None, (a, b) != pair)
                self.assertIs(exchange(fresh_book([pair]), a, b, same_cell=False) is None, (a, b) != pair)
        found = exchange(Book.sequential(), "read", "write")
        self.assertEqual(size(found.program), 4)
        self.assertEqual([word[0] for word in found.changed[0]], ["write", "read"])

    def test_accesses_to_one_cell(self):
        for coherent in (False, True):
            book = fresh_book([("read", "acquire")], early=True, coherent=coherent)
            for a, b in oracle.EVERY:
                found = exchange(book, a, b, same_cell=True)
                reads = oracle.is_read(a) and oracle.is_read(b)
                right = reads and not coherent and (a, b) != ("read", "acquire")
                self.assertIs(found is None, right)
                if found is not None:
                    self.assertEqual(size(found.program), 3 if reads else 2)

    def test_the_outcome_of_two_reads_is_stated_for_the_original(self):
        found = exchange(Book.sequential(), "read", "acquire", same_cell=True)
        [a, b], [c, d] = found.program[0], found.changed[0]
        self.assertEqual((a[0], b[0], c[0], d[0]), ("read", "acquire", "acquire", "read"))
        told = Book.sequential().run(found.changed, found.line)
        self.assertEqual(found.outcome, (told[0][::-1], told[1]))
        self.assertNotEqual(found.outcome, told)

    def test_a_write_and_a_read_of_one_cell(self):
        for a, b in list(product(READS, WRITES)) + list(product(WRITES, READS)) + list(product(WRITES, WRITES)):
            for book in (Book.sequential(), Book.relaxed(), fresh_book(early=True, coherent=False)):
                found = exchange(book, a, b, same_cell=True)
                self.assertEqual(size(found.program), 2)
                self.assert_shows(book, "near", a, b, found)

    def test_an_access_and_a_fence(self):
        fences = {"s": [("read", "write"), ("write", "acquire")], "e": []}
        book = fresh_book(fences=fences, coherent=False)
        for kind in KINDS:
            self.assertIs(exchange(book, kind, "s") is None, kind not in ("read", "write"))
            self.assertIs(exchange(book, "s", kind) is None, kind not in ("write", "acquire"))
            self.assertIsNone(exchange(book, kind, "e"))
            self.assertIsNone(exchange(book, "e", kind))
            self.assertIsNotNone(exchange(book, kind, "full"))
            self.assertIsNotNone(exchange(book, "full", kind))
        kept = fresh_book([("read", "write"), ("write", "acquire")], fences=fences)
        for kind in KINDS:
            self.assertIsNone(exchange(kept, kind, "s"))
            self.assertIsNone(exchange(kept, "s", kind))
            self.assertIsNone(exchange(Book.sequential(), kind, "full"))
            self.assertIsNone(exchange(Book.sequential(), "full", kind))

    def test_fewer_accesses_where_two_reads_of_one_cell_show_it(self):
        fences = {"s": [("read", "write"), ("read", "acquire")]}
        for coherent, many in ((True, 4), (False, 3)):
            book = fresh_book(fences=fences, coherent=coherent)
            self.assertEqual(size(exchange(book, "read", "s").program), many)
            self.assertEqual(size(exchange(book, "s", "acquire").program), many)
            self.assertEqual(size(exchange(book, "s", "write").program), 4)

    def test_same_cell_has_no_effect_beside_a_fence(self):
        for description in some_books(1420, 10, ["s"]):
            book = oracle.make(description)
            for a, b in product(KINDS + book.names, repeat=2):
                if a in KINDS and b in KINDS:
                    continue
                one, other = exchange(book, a, b), exchange(book, a, b, same_cell=True)
                self.assertIs(one is None, other is None)
                if one is not None:
                    self.assertEqual(size(one.program), size(other.program))
                    self.assert_shows(book, "exchange", a, b, other)

    def test_two_fences(self):
        book = fresh_book(fences={"s": oracle.EVERY, "e": []})
        for a, b in product(book.names, book.names):
            self.assertIsNone(exchange(book, a, b))

    def test_unknown_names(self):
        book = fresh_book(fences={"s": []})
        cases = [("x", "y", "x"), ("read", "y", "y"), ("full", "t", "t"), ("", "read", ""), ("Read", "write", "Read"),
                 ("s", "reads", "reads"), ("t", "s", "t")]
        for first, second, told in cases:
            for same_cell in (False, True):
                with self.assertRaises(UnknownName) as caught:
                    exchange(book, first, second, same_cell=same_cell)
                self.assertEqual(caught.exception.name, told)

    def test_same_cell_goes_by_keyword(self):
        with self.assertRaises(TypeError):
            exchange(Book.sequential(), "read", "read", True)


class DropTest(ChangeCase):

    def test_a_read_that_binds_more(self):
        book = fresh_book([("acquire", "write")], coherent=True)
        self.assertIsNone(drop_read(book, "acquire", "read"))
        self.assertIsNone(drop_read(book, "acquire", "acquire"))
        self.assertIsNone(drop_read(book, "read", "read"))
        found = drop_read(book, "read", "acquire")
        self.assertEqual(size(found.program), 5)
        self.assert_shows(book, "drop_read", "read", "acquire", found)

    def test_the_dropped_read_has_the_value_of_the_one_that_stays(self):
        for description in some_books(1430, 60, ["s"]):
            book = oracle.make(description)
            for first, second in product(READS, READS):
                found = drop_read(book, first, second)
                if found is None:
                    continue
                names = list(oracle.named(found.program))
                reads = [name for name in sorted(names) if oracle.is_read(
                    found.program[name[0]][oracle.named(found.program)[name][1]][0])]
                at = [k for k, name in enumerate(reads) if oracle.named(found.program)[name] == (0, found.index)][0]
                self.assertEqual(found.outcome[0][at], found.outcome[0][at + 1])

    def test_what_binds_ahead_and_what_binds_behind(self):
        for pair, told in ((("acquire", "write"), 0), (("write", "acquire"), 1)):
            book = fresh_book([pair])
            found = drop_read(book, "read", "acquire")
            self.assertEqual(found.index, told)
        for pair, told in ((("write", "read"), 0), (("read", "write"), 1)):
            book = fresh_book([pair])
            self.assertEqual(drop_write(book, "write", "release").index, told)
            self.assertIsNone(drop_write(book, "release", "write"))

    def test_what_binds_over_a_fence_only(self):
        book = fresh_book(fences={"s": [("acquire", "write")]}, coherent=False)
        found = drop_read(book, "read", "acquire")
        self.assertIn(("s",), found.program[0])
        self.assertEqual(size(found.program), 5)
        self.assertIsNone(drop_read(book, "acquire", "read"))
        book = fresh_book(fences={"s": [("release", "read")]})
        found = drop_write(book, "release", "write")
        self.assertIn(("s",), found.program[0])
        self.assertIsNone(drop_write(book, "write", "release"))

    def test_one_write_where_two_reads_of_one_cell_show_it(self):
        book = fresh_book([("acquire", "read")], coherent=False)
        self.assertEqual(size(drop_read(book, "read", "acquire").program), 4)
        book = fresh_book([("acquire", "read")], coherent=True)
        self.assertEqual(size(drop_read(book, "read", "acquire").program), 5)

    def test_the_same_kind_twice(self):
        for description in some_books(1431, 20, ["s"]):
            book = oracle.make(description)
            for kind in READS:
                self.assertIsNone(drop_read(book, kind, kind))
            for kind in WRITES:
                self.assertIsNone(drop_write(book, kind, kind))
            for name in book.names:
                self.assertIsNone(drop_fence(book, name, name))

    def test_fences(self):
        fences = {"s": [("read", "write")], "t": [("read", "write"), ("write", "read")], "e": []}
        book = fresh_book(fences=fences)
        for stays, dropped in product(book.names, book.names):
            right = set(book_pairs(fences, dropped)) <= set(book_pairs(fences, stays))
            self.assertIs(drop_fence(book, stays, dropped) is None, right)
        book = fresh_book([("write", "read")], fences=fences)
        self.assertIsNone(drop_fence(book, "s", "t"))
        self.assertIsNotNone(drop_fence(book, "e", "t"))
        self.assertIsNotNone(drop_fence(book, "t", "full"))
        self.assertIsNone(drop_fence(fresh_book(oracle.EVERY, fences=fences), "e", "full"))

    def test_the_smallest_of_several_is_told(self):
        book = fresh_book(fences={"t": [("read", "write"), ("acquire", "acquire")], "e": []}, coherent=False)
        self.assertEqual(size(drop_fence(book, "e", "t").program), 3)
        book = fresh_book([("acquire", "write")], fences={"t": [("acquire", "read")]}, coherent=False)
        self.assertEqual(size(drop_read(book, "read", "acquire").program), 4)

    def test_fences_between_two_reads_of_one_cell(self):
        fences = {"s": [("write", "write")], "t": [("write", "read"), ("acquire", "read")]}
        for coherent, many in ((True, 4), (False, 3)):
            found = drop_fence(fresh_book(fences=fences, coherent=coherent), "s", "t")
            self.assertEqual(size(found.program), many)
            self.assertEqual(found.index, 1)
            self.assertEqual(found.program[0][1:3], [("s",), ("t",)])
            self.assertEqual(found.changed[0][1:2], [("s",)])

    def test_unknown_names(self):
        book = fresh_book(fences={"s": []})
        cases = [
            (drop_read, "write", "read", "write"), (drop_read, "read", "release", "release"),
            (drop_read, "full", "x", "full"), (drop_read, "read", "s", "s"),
            (drop_write, "read", "write", "read"), (drop_write, "write", "acquire", "acquire"),
            (drop_write, "x", "read", "x"), (drop_write, "release", "full", "full"),
            (drop_fence, "read", "full", "read"), (drop_fence, "full", "write", "write"),
            (drop_fence, "t", "u", "t"), (drop_fence, "s", "u", "u"), (drop_fence, "s", "", ""),
            (forward, "read", "write", "read"), (forward, "write", "write", "write"), (forward, "s", "x", "s"),
            (forward, "release", "full", "full"), (forward, "acquire", "read", "acquire"),
        ]
        for ask, first, second, told in cases:
            with self.subTest((ask, first, second)):
                with self.assertRaises(UnknownName) as caught:
                    ask(book, first, second)
                self.assertEqual(caught.exception.name, told)


def book_pairs(fences, name):
    return oracle.EVERY if name == "full" else fences[name]


class ForwardTest(ChangeCase):

    # For each form of a smallest program its size and a book; the write is a "write", the read a "read".
    FORMS = {
        "c before r": (5, fresh_book([("acquire", "read")], early=True)),
        "c before r, not early": (5, fresh_book([("read", "read")])),
        "c before r over a fence": (5, fresh_book(fences={"s": [("release", "read")]}, early=True)),
        "w before e": (5, fresh_book([("read", "write")])),
        "w before e over a fence": (5, fresh_book(fences={"s": [("read", "acquire")]}, coherent=False)),
        "w before e, by r and m": (6, fresh_book([("write", "read"), ("write", "write"), ("acquire", "release")],
                                                 early=True)),
        "c before e, both reads": (5, fresh_book([("acquire", "read"), ("acquire", "write"), ("read", "acquire")],
                                                 early=True, coherent=False)),
        "c before e, both reads, over fences": (5, fresh_book(
            fences={"s": [("acquire", "read"), ("acquire", "write")], "t": [("read", "acquire")]},
            early=True, coherent=False)),
        "c before e": (6, fresh_book([("acquire", "read"), ("acquire", "write"), ("read", "acquire")], early=True)),
        "c before e, c a write": (6, fresh_book([("release", "read"), ("release", "write"), ("read", "acquire")],
                                                early=True, coherent=False)),
        "c before e, c of this cell": (6, fresh_book([("read", "write")], early=True)),
        "c before e, by r and m": (7, fresh_book([("release", "read"), ("release", "write"), ("acquire", "release")],
                                                 early=True)),
    }

    def test_each_form(self):
        for form, (many, book) in self.FORMS.items():
            with self.subTest(form):
                found = forward(book, "write", "read")
                self.assertEqual(size(found.program), many)
                self.assert_shows(book, "forward", "write", "read", found)

    def test_no_smaller_program_shows_it(self):
        for form, (many, book) in self.FORMS.items():
            with self.subTest(form):
                search = ChangeSearch(book, "forward", "write", "read")
                self.assertIsNone(search.first_shown(min(many - 1, 4)))

    def test_no_program_with_five_accesses_shows_what_needs_six(self):
        for form, (many, book) in self.FORMS.items():
            if many > 5:
                with self.subTest(form):
                    kinds = sorted({kind for pair in book.kept for kind in pair})
                    search = ChangeSearch(book, "forward", "write", "read")
                    self.assertIsNone(search.first_shown(5, kinds=kinds, threads=3))

    def test_the_read_has_the_value_written(self):
        for many, book in self.FORMS.values():
            found = forward(book, "write", "read")
            write, read = found.program[0][found.index:found.index + 2]
            self.assertEqual(write[1], read[1])
            ahead = [word for word in found.program[0][:found.index] if oracle.is_read(word[0])]
            self.assertEqual(found.outcome[0][len(ahead)], write[2])
            self.assertEqual(len(found.outcome[0]),
                             len([word for thread in found.program for word in thread if oracle.is_read(word[0])]))

    def test_right_in_simple_books(self):
        for book in (Book.sequential(), fresh_book(early=True), fresh_book(early=True, coherent=False),
                     fresh_book(), Book.buffered()):
            for write, read in product(WRITES, READS):
                self.assertIsNone(forward(book, write, read))

    def test_each_kind_counts(self):
        book = fresh_book([("acquire", "write")])
        self.assertIsNone(forward(book, "write", "read"))
        self.assertIsNotNone(forward(book, "write", "acquire"))
        book = fresh_book([("acquire", "write"), ("release", "write")])
        self.assertIsNone(forward(book, "release", "acquire"))
        self.assertIsNotNone(forward(book, "write", "acquire"))


class SmallestTest(ChangeCase):

    def test_no_smaller_program_and_none_at_all_for_a_right_change(self):
        random = Random(1440)
        for fences, many_books in (([], 30), (["a"], 8)):
            for description in some_books(1441 + len(fences), many_books, fences):
                book = oracle.make(description)
                for what, first, second in random.sample(choices(book), 4):
                    found = ASK[what](book, first, second)
                    many = 3 if found is None else min(size(found.program) - 1, 4 if not fences else 3)
                    with self.subTest((description, what, first, second)):
                        self.assertIsNone(ChangeSearch(book, what, first, second).first_shown(many))

    def test_right_changes_of_two_accesses_with_two_more(self):
        random = Random(1442)
        for description in some_books(1443, 40):
            book = oracle.make(description)
            for what, first, second in random.sample([choice for choice in choices(book) if choice[0] in (
                    "exchange", "near", "drop_read", "drop_write", "forward")], 5):
                if ASK[what](book, first, second) is None and "full" not in (first, second):
                    self.assertIsNone(ChangeSearch(book, what, first, second).first_shown(4))

    def test_the_search_finds_what_there_is(self):
        random = Random(1444)
        many = {}
        for description in some_books(1445, 40, coherent=False):
            book = oracle.make(description)
            for what, first, second in random.sample(choices(book), 3):
                found = ASK[what](book, first, second)
                if found is not None and size(found.program) <= 4:
                    original, _ = ChangeSearch(book, what, first, second).first_shown(4)
                    self.assertEqual(size(original), size(found.program))
                    many[what] = many.get(what, 0) + 1
        self.assertGreater(min(many["exchange"], many["near"]), 5)
        self.assertGreater(len(many), 2)


class CopyTest(ChangeCase):

    CASES = [
        (Book.sequential(), "exchange", "read", "write"), (Book.sequential(), "near", "read", "acquire"),
        (Book.sequential(), "near", "write", "read"), (Book.relaxed(), "exchange", "read", "full"),
        (Book.relaxed(), "drop_read", "read", "acquire"), (Book.relaxed(), "drop_write", "release", "write"),
        (fresh_book(fences={"s": []}), "drop_fence", "s", "full"),
        (fresh_book([("read", "read")]), "forward", "write", "read"),
    ]

    def test_what_comes_back_is_new(self):
        for book, what, first, second in self.CASES:
            found = ASK[what](book, first, second)
            told = [[list(thread) for thread in found.program], [list(thread) for thread in found.changed],
                    found.index, found.outcome, list(found.line)]
            for thread in found.program:
                thread.append(("full",))
            self.assertEqual(found.changed, told[1])
            found.program.clear()
            found.line.reverse()
            found.changed[0].clear()
            found.changed.pop()
            again = ASK[what](book, first, second)
            self.assertEqual([again.program, again.changed, again.index, again.outcome, again.line], told)

    def test_the_two_instructions_as_passed(self):
        for book, what, first, second in self.CASES:
            found = ASK[what](book, first, second)
            thread = found.program[0]
            self.assertEqual([word[0] for word in thread[found.index:found.index + 2]], [first, second])
            put = changed_pair(what, thread[found.index:found.index + 2])
            self.assertEqual(found.changed[0][found.index:found.index + len(put)], put)
