"""Points 7 and 8: run, outcomes and "in"; and the errors of the four functions."""

import unittest
from itertools import product
from random import Random

from keptpairs.books import Book
from keptpairs.errors import InvalidProgram, NotALine, UnknownName
from keptpairs.pairs import Pairs
from tests import oracle

LOOSE = Book(Pairs(), early=True, coherent=False)
STORES = [[("write", 0, 1), ("read", 1)], [("write", 1, 1), ("read", 0)]]
EMPTY = [[[]], [[], []], [[], [], [], []], [[("full",)]], [[("full",), ("full",)], []], [[], [("full",)]], []]


class RunTest(unittest.TestCase):

    def test_a_read_takes_the_last_write_ahead_of_it_or_0(self):
        program = [[("read", 0)], [("write", 0, 5)], [("write", 0, 7)]]
        read, five, seven = (0, 0), (1, 0), (2, 0)
        book = Book.sequential()
        self.assertEqual(book.run(program, [read, five, seven]), ((0,), (7,)))
        self.assertEqual(book.run(program, [five, read, seven]), ((5,), (7,)))
        self.assertEqual(book.run(program, [five, seven, read]), ((7,), (7,)))
        self.assertEqual(book.run(program, [seven, five, read]), ((5,), (5,)))
        self.assertEqual(book.run(program, [seven, read, five]), ((7,), (5,)))

    def test_a_read_takes_only_its_own_cell(self):
        program = [[("read", 3), ("acquire", 4)], [("release", 4, 8)]]
        self.assertEqual(Book.sequential().run(program, [(1, 0), (0, 0), (0, 1)]), ((0, 8), (0, 8)))

    def test_own_writes_that_are_not_yet_placed(self):
        program = [[("write", 0, 5), ("read", 0)], [("write", 0, 9)]]
        book = Book.buffered()
        self.assertEqual(book.run(program, [(0, 1), (0, 0), (1, 0)]), ((5,), (9,)))
        self.assertEqual(book.run(program, [(1, 0), (0, 1), (0, 0)]), ((5,), (5,)))
        self.assertEqual(book.run(program, [(0, 0), (1, 0), (0, 1)]), ((9,), (9,)))
        self.assertEqual(book.run(program, [(0, 0), (0, 1), (1, 0)]), ((5,), (9,)))

    def test_the_last_own_write_in_the_thread_counts(self):
        program = [[("write", 0, 5), ("write", 0, 6), ("read", 0), ("write", 0, 7)]]
        book = Book.buffered()
        first, second, read, third = (0, 0), (0, 1), (0, 2), (0, 3)
        self.assertEqual(book.run(program, [read, first, second, third]), ((6,), (7,)))
        self.assertEqual(book.run(program, [first, read, second, third]), ((6,), (7,)))
        self.assertEqual(book.run(program, [first, second, read, third]), ((6,), (7,)))

    def test_an_own_write_behind_it_goes_before_a_later_one_ahead_of_it(self):
        # The own write of 5 is still to come, so the 9 that stands last in the line is not read.
        program = [[("write", 0, 5), ("write", 1, 2), ("read", 0)], [("write", 0, 9)]]
        line = [(1, 0), (0, 2), (0, 0), (0, 1)]
        self.assertEqual(Book.buffered().run(program, line), ((5,), (5, 2)))

    def test_a_write_of_the_thread_that_stands_behind_the_read_does_not_count(self):
        program = [[("read", 0), ("write", 0, 5)]]
        self.assertEqual(LOOSE.run(program, [(0, 0), (0, 1)]), ((0,), (5,)))

    def test_own_writes_of_other_cells_and_threads_do_not_count(self):
        program = [[("write", 1, 5), ("read", 0)], [("write", 0, 6), ("read", 1)]]
        self.assertEqual(Book.buffered().run(program, [(0, 1), (1, 1), (0, 0), (1, 0)]), ((0, 0), (6, 5)))

    def test_reads_are_told_in_the_order_of_their_names(self):
        program = [[("read", 0), ("acquire", 1)], [("write", 0, 3)], [("read", 0), ("write", 1, 4), ("read", 1)]]
        line = [(2, 0), (2, 1), (2, 2), (1, 0), (0, 0), (0, 1)]
        self.assertEqual(Book.sequential().run(program, line), ((3, 4, 0, 4), (3, 4)))
        line = [(0, 1), (1, 0), (0, 0), (2, 2), (2, 0), (2, 1)]
        self.assertEqual(LOOSE.run(program, line), ((3, 0, 3, 4), (3, 4)))

    def test_contents_are_told_by_cell(self):
        program = [[("write", 9, 1), ("read", 4), ("write", 0, 2), ("release", 9, 3)]]
        self.assertEqual(Book.sequential().run(program, [(0, 0), (0, 1), (0, 2), (0, 3)]), ((0,), (2, 0, 3)))

    def test_the_last_write_in_the_line_stays(self):
        program = [[("write", 0, 1)], [("write", 0, 2)], [("release", 0, 3)]]
        names = [(0, 0), (1, 0), (2, 0)]
        for line in ([names[0], names[1], names[2]], [names[2], names[0], names[1]], [names[1], names[2], names[0]]):
            last = line[-1][0] + 1
            self.assertEqual(Book.sequential().run(program, line), ((), (last,)))

    def test_the_bounds_of_cells_and_values(self):
        program = [[("write", 0, 10 ** 9), ("write", 9, 1), ("read", 0), ("read", 9)]]
        line = [(0, 0), (0, 1), (0, 2), (0, 3)]
        self.assertEqual(Book.sequential().run(program, line), ((10 ** 9, 1), (10 ** 9, 1)))

    def test_programs_without_accesses(self):
        for program in EMPTY:
            self.assertEqual(Book.sequential().run(program, []), ((), ()))

    def test_the_outcome_is_made_of_tuples(self):
        outcome = Book.sequential().run([[("read", 0)]], [(0, 0)])
        self.assertEqual([type(part) for part in (outcome, *outcome)], [tuple, tuple, tuple])

    def test_against_the_words_of_points_7_and_8(self):
        random = Random(7)
        for description in oracle.some_books(77, 40):
            book = oracle.make(description)
            for cells in (1, 2, 3):
                program = oracle.some_program(random, book.names, 5, 2, cells)
                for line in oracle.lines(description, program):
                    self.assertEqual(book.run(program, line), oracle.run(program, line))

    def test_what_is_passed_is_left_alone(self):
        program = [[("write", 0, 1), ("full",), ("read", 0)], []]
        line = [(0, 0), (0, 1)]
        Book.sequential().run(program, line)
        self.assertEqual(program, [[("write", 0, 1), ("full",), ("read", 0)], []])
        self.assertEqual(line, [(0, 0), (0, 1)])


class NotALineTest(unittest.TestCase):

    def assert_no_line(self, book, program, line):
        with self.assertRaises(NotALine) as caught:
            book.run(program, line)
        self.assertEqual(caught.exception.line, line)

    def test_each_way_in_which_a_list_is_no_line(self):
        right = [(0, 0), (0, 1), (1, 0), (1, 1)]
        book = Book.sequential()
        book.run(STORES, right)
        for line in (
                [],
                right[:3], right[1:], right[:1],
                right + [(1, 1)], right + [(0, 0)], right + [(2, 0)], right + [(0, 2)],
                [(0, 0), (0, 1), (1, 0), (1, 0)], [(0, 0), (0, 0), (1, 0), (1, 1)],
                [(0, 0), (0, 1), (1, 0), (1, 2)], [(0, 0), (0, 1), (1, 0), (2, 0)], [(0, 0), (0, 1), (1, 0), (-1, 1)],
                [(0, 1), (0, 0), (1, 0), (1, 1)], [(1, 1), (0, 0), (0, 1), (1, 0)],
                [(0, 0), (0, 1), (1, 0), (1,)], [(0, 0), (0, 1), (1, 0), (1, 1, 0)], [(0, 0), (0, 1), (1, 0), ()],
                [[0, 0], [0, 1], [1, 0], [1, 1]], [(0, 0), (0, 1), (1, 0), [1, 1]],
                [(0, 0), (0, 1), (1, 0), None], [(0, 0), (0, 1), (1, 0), 3], [(0, 0), (0, 1), (1, 0), "11"],
                [(0, 0), (0, 1), (1, 0), {}], [(0, 0), (0, 1), (1, 0), ([1], 1)],
                [(False, 0), (0, 1), (1, 0), (1, 1)], [(0, 0), (0, True), (1, 0), (1, 1)],
                [(0, 0), (0, 1), (1.0, 0), (1, 1)],
                [0, 1, 2, 3]):
            with self.subTest(line):
                self.assert_no_line(book, STORES, line)

    def test_a_line_is_a_list(self):
        with self.assertRaises(NotALine):
            Book.sequential().run(STORES, ((0, 0), (0, 1), (1, 0), (1, 1)))

    def test_names_do_not_count_fences(self):
        program = [[("full",), ("read", 0), ("full",), ("read", 0)]]
        self.assertEqual(LOOSE.run(program, [(0, 0), (0, 1)]), ((0, 0), (0,)))
        self.assert_no_line(LOOSE, program, [(0, 1), (0, 3)])
        self.assert_no_line(LOOSE, program, [(0, 1), (0, 0)])

    def test_the_order_depends_on_the_book(self):
        line = [(0, 1), (1, 1), (0, 0), (1, 0)]
        self.assert_no_line(Book.sequential(), STORES, line)
        self.assertEqual(Book.buffered().run(STORES, line), ((0, 0), (1, 1)))

    def test_programs_without_accesses(self):
        for program in EMPTY:
            self.assert_no_line(Book.sequential(), program, [(0, 0)])

    def test_all_permutations(self):
        description = ({("acquire", "write")}, {"f": {("read", "read")}}, True, False)
        book = oracle.make(description)
        program = [[("acquire", 0), ("read", 1), ("f",), ("read", 0), ("write", 1, 2)], [("write", 0, 3)]]
        loose = oracle.lines((set(), {}, True, False), [[("read", 0), ("read", 1), ("read", 2), ("read", 3)],
                                                        [("read", 4)]])
        right = oracle.lines(description, program)
        self.assertEqual(len(loose), 120)
        self.assertTrue(0 < len(right) < 120)
        for line in loose:
            if line in right:
                self.assertEqual(book.run(program, line), oracle.run(program, line))
            else:
                self.assert_no_line(book, program, line)


class OutcomesTest(unittest.TestCase):

    def test_in_the_order_of_the_lines(self):
        self.assertEqual(Book.sequential().outcomes(STORES),
                         [((0, 1), (1, 1)), ((1, 1), (1, 1)), ((1, 0), (1, 1))])
        self.assertEqual(Book.buffered().outcomes(STORES),
                         [((0, 1), (1, 1)), ((1, 1), (1, 1)), ((0, 0), (1, 1)), ((1, 0), (1, 1))])

    def test_each_once(self):
        program = [[("write", 0, 1)], [("write", 0, 1)], [("read", 0)]]
        self.assertEqual(Book.sequential().outcomes(program), [((1,), (1,)), ((0,), (1,))])

    def test_one_outcome(self):
        self.assertEqual(LOOSE.outcomes([[("read", 0), ("read", 1), ("read", 5)]]), [((0, 0, 0), (0, 0, 0))])
        self.assertEqual(LOOSE.outcomes([[("write", 3, 7)]]), [((), (7,))])

    def test_programs_without_accesses(self):
        for program in EMPTY:
            self.assertEqual(Book.relaxed().outcomes(program), [((), ())])

    def test_a_fence_takes_outcomes_away(self):
        fenced = [[("write", 0, 1), ("full",), ("read", 1)], [("write", 1, 1), ("full",), ("read", 0)]]
        self.assertEqual(Book.buffered().outcomes(fenced), Book.sequential().outcomes(STORES))

    def test_early_reads(self):
        program = [[("write", 0, 1), ("read", 0), ("read", 1)], [("write", 1, 1), ("read", 1), ("read", 0)]]
        shown = ((1, 0, 1, 0), (1, 1))
        self.assertIn(shown, Book.buffered().outcomes(program))
        waiting = Book(Book.buffered().kept)
        self.assertNotIn(shown, waiting.outcomes(program))

    def test_reads_of_one_cell(self):
        program = [[("read", 0), ("read", 0)], [("write", 0, 1)]]
        shown = ((1, 0), (1,))
        self.assertIn(shown, Book.relaxed().outcomes(program))
        self.assertNotIn(shown, Book(Book.relaxed().kept, early=True).outcomes(program))

    def test_handing_over(self):
        plain = [[("write", 0, 1), ("write", 1, 1)], [("read", 1), ("read", 0)]]
        marked = [[("write", 0, 1), ("release", 1, 1)], [("acquire", 1), ("read", 0)]]
        shown = ((1, 0), (1, 1))
        self.assertIn(shown, Book.relaxed().outcomes(plain))
        self.assertNotIn(shown, Book.relaxed().outcomes(marked))

    def test_against_the_words_of_points_7_and_8(self):
        random = Random(8)
        for description in oracle.some_books(88, 60):
            book = oracle.make(description)
            for cells in (1, 2, 3):
                program = oracle.some_program(random, book.names, 5, 2, cells)
                expected = oracle.outcomes(description, program)
                self.assertEqual(book.outcomes(program), expected)
                lines = [book.run(program, line) for line in book.lines(program)]
                self.assertEqual(list(dict.fromkeys(lines)), expected)

    def test_the_answer_is_new(self):
        book = Book.buffered()
        first = book.outcomes(STORES)
        expected = list(first)
        first.clear()
        self.assertEqual(book.outcomes(STORES), expected)

    def test_the_program_is_left_alone(self):
        program = [list(thread) for thread in STORES]
        Book.buffered().outcomes(program)
        self.assertEqual(program, STORES)


class InTest(unittest.TestCase):

    def test_allowed_and_not_allowed(self):
        book = Book.sequential()
        self.assertIs((STORES, ((1, 1), (1, 1))) in book, True)
        self.assertIs((STORES, ((0, 1), (1, 1))) in book, True)
        self.assertIs((STORES, ((0, 0), (1, 1))) in book, False)
        self.assertIs((STORES, ((0, 0), (1, 1))) not in book, True)
        self.assertIs((STORES, ((0, 0), (1, 1))) in Book.buffered(), True)
        self.assertIs((STORES, ((1, 1), (1, 0))) in book, False)
        self.assertIs((STORES, ((2, 1), (1, 1))) in book, False)

    def test_another_number_of_values(self):
        book = Book.buffered()
        for outcome in (((), ()), ((1,), (1, 1)), ((1, 1), (1,)), ((1, 1, 1), (1, 1)), ((1, 1), (1, 1, 1)),
                        ((1, 1), ()), ((), (1, 1)), ((1, 1, 1, 1), ())):
            self.assertIs((STORES, outcome) in book, False)

    def test_programs_without_accesses(self):
        for program in EMPTY:
            self.assertIs((program, ((), ())) in Book.relaxed(), True)
            self.assertIs((program, ((0,), ())) in Book.relaxed(), False)
            self.assertIs((program, ((), (0,))) in Book.relaxed(), False)

    def test_against_the_words_of_point_8(self):
        random = Random(88)
        for description in oracle.some_books(888, 30):
            book = oracle.make(description)
            program = oracle.some_program(random, book.names, 4, 1)
            allowed = oracle.outcomes(description, program)
            reads, contents = allowed[0]
            values = range(6)
            for outcome in product(product(values, repeat=len(reads)), [contents, allowed[-1][1], contents[::-1]]):
                self.assertIs((program, outcome) in book, outcome in allowed)

    def test_what_is_passed_is_left_alone(self):
        program = [list(thread) for thread in STORES]
        asked = (program, ((0, 0), (1, 1)))
        self.assertIn(asked, Book.buffered())
        self.assertEqual(asked, (STORES, ((0, 0), (1, 1))))


class ErrorsTest(unittest.TestCase):
    """The four functions first raise InvalidProgram, then UnknownName, then what is their own."""

    def works(self, book, program):
        """Each function on the program, with a list that is no line and an outcome that is none."""
        return [
            lambda: list(book.lines(program)),
            lambda: book.run(program, ["no line"]),
            lambda: book.outcomes(program),
            lambda: (program, "no outcome") in book,
        ]

    def test_invalid_programs(self):
        cases = [
            ([[("read", 10)]], 0, 0),
            ([[("read", 0)], [("full",), ("write", 0, 0)]], 1, 1),
            ([[("other",), ("read", 0)], [], [["full"]]], 2, 0),
            ([[("read", True)]], 0, 0),
            ([[("other",)], [("more",)], [("Not",)], [()]], 2, 0),
        ]
        for program, thread, index in cases:
            for k, work in enumerate(self.works(Book.relaxed(), program)):
                with self.subTest(program=program, work=k):
                    with self.assertRaises(InvalidProgram) as caught:
                        work()
                    self.assertEqual((caught.exception.thread, caught.exception.index), (thread, index))

    def test_unknown_fences(self):
        book = Book(Pairs(), fences={"mine": Pairs()})
        cases = [
            ([[("other",)]], "other"),
            ([[("mine",), ("full",), ("b",), ("a",)]], "b"),
            ([[("mine",), ("read", 0)], [], [("z",), ("read", 1)], [("a",)]], "z"),
            ([[("mines",), ("mine",)]], "mines"),
        ]
        for program, name in cases:
            for k, work in enumerate(self.works(book, program)):
                with self.subTest(program=program, work=k):
                    with self.assertRaises(UnknownName) as caught:
                        work()
                    self.assertEqual(caught.exception.name, name)

    def test_known_fences(self):
        book = Book(Pairs(), fences={"mine": Pairs()})
        program = [[("mine",), ("full",), ("read", 0)]]
        self.assertEqual(list(book.lines(program)), [[(0, 0)]])
        self.assertEqual(book.run(program, [(0, 0)]), ((0,), (0,)))
        self.assertEqual(book.outcomes(program), [((0,), (0,))])
        self.assertIs((program, ((0,), (0,))) in book, True)

    def test_no_line_comes_last(self):
        with self.assertRaises(NotALine):
            Book.relaxed().run([[("read", 0)]], ["no line"])
        with self.assertRaises(UnknownName):
            Book.relaxed().run([[("other",)]], ["no line"])
        with self.assertRaises(InvalidProgram):
            Book.relaxed().run([[("other",), ("read",)]], ["no line"])
