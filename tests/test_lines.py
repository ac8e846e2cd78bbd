"""Point 6: lines."""

import unittest
from itertools import permutations, product
from random import Random
from types import GeneratorType

from keptpairs.books import Book
from keptpairs.errors import InvalidProgram, UnknownName
from keptpairs.pairs import Pairs
from tests import oracle

LOOSE = Book(Pairs(), early=True, coherent=False)


class LinesTest(unittest.TestCase):

    def test_a_generator_of_lists_of_tuples(self):
        lines = Book.sequential().lines([[("read", 0)], [("write", 0, 1)]])
        self.assertIs(type(lines), GeneratorType)
        first = next(lines)
        self.assertEqual(first, [(0, 0), (1, 0)])
        self.assertIs(type(first), list)
        self.assertEqual({type(name) for name in first}, {tuple})
        self.assertEqual(next(lines), [(1, 0), (0, 0)])
        self.assertEqual(list(lines), [])

    def test_one_thread_in_order(self):
        program = [[("write", 0, 1), ("read", 1), ("full",), ("acquire", 2)]]
        self.assertEqual(list(Book.sequential().lines(program)), [[(0, 0), (0, 1), (0, 2)]])

    def test_two_threads_ascending(self):
        program = [[("write", 0, 1), ("read", 1)], [("write", 1, 1), ("read", 0)]]
        self.assertEqual(list(Book.sequential().lines(program)), [
            [(0, 0), (0, 1), (1, 0), (1, 1)],
            [(0, 0), (1, 0), (0, 1), (1, 1)],
            [(0, 0), (1, 0), (1, 1), (0, 1)],
            [(1, 0), (0, 0), (0, 1), (1, 1)],
            [(1, 0), (0, 0), (1, 1), (0, 1)],
            [(1, 0), (1, 1), (0, 0), (0, 1)],
        ])
        self.assertEqual(list(Book.buffered().lines(program)),
                         [list(line) for line in permutations([(0, 0), (0, 1), (1, 0), (1, 1)])])

    def test_names_count_accesses_without_fences(self):
        program = [[("full",), ("read", 0), ("full",), ("full",), ("read", 1)], [("full",), ("full",), ("write", 0, 1)]]
        self.assertEqual(list(LOOSE.lines(program)), [
            [(0, 0), (0, 1), (1, 0)], [(0, 0), (1, 0), (0, 1)], [(1, 0), (0, 0), (0, 1)]])

    def test_a_kept_order_reaches_over_other_accesses(self):
        book = Book(Pairs([("acquire", "write")]), coherent=False)
        program = [[("acquire", 0), ("read", 1), ("write", 2, 1)]]
        self.assertEqual(list(book.lines(program)), [
            [(0, 0), (0, 1), (0, 2)], [(0, 0), (0, 2), (0, 1)], [(0, 1), (0, 0), (0, 2)]])

    def test_programs_without_accesses(self):
        programs = [[[]], [[], []], [[], [], [], []], [[("full",)]], [[("full",), ("full",)], []],
                    [[], [("full",)], [], [("full",)]], []]
        for program in programs:
            for book in (Book.sequential(), Book.relaxed()):
                with self.subTest(program):
                    self.assertEqual(list(book.lines(program)), [[]])

    def test_empty_threads_count(self):
        program = [[], [("read", 0)], [], [("full",), ("write", 1, 1)]]
        self.assertEqual(list(Book.sequential().lines(program)), [[(1, 0), (3, 0)], [(3, 0), (1, 0)]])

    def test_against_the_words_of_point_6(self):
        random = Random(6)
        for description in oracle.some_books(66, 60):
            book = oracle.make(description)
            for accesses, fences in product([1, 3, 5], [0, 3]):
                program = oracle.some_program(random, book.names, accesses, fences)
                lines = list(book.lines(program))
                self.assertEqual(lines, oracle.lines(description, program))
                self.assertEqual(lines, sorted(lines))
                self.assertEqual(len(lines), len({tuple(line) for line in lines}))

    def test_changing_a_line_has_no_effect_on_later_ones(self):
        program = [[("read", 0), ("read", 1)], [("read", 2)]]
        expected = list(LOOSE.lines(program))
        found = []
        for line in LOOSE.lines(program):
            found.append(list(line))
            line.reverse()
            line.append((9, 9))
            del line[0]
        self.assertEqual(found, expected)
        self.assertEqual(list(LOOSE.lines(program)), expected)

    def test_a_program_that_is_changed_after_the_first_line(self):
        program = [[("read", 0), ("read", 1)], [("read", 2)]]
        expected = list(LOOSE.lines(program))
        lines = LOOSE.lines(program)
        found = [next(lines)]
        program[0].insert(1, ("full",))
        program[1].clear()
        program.append([("read", 5)])
        self.assertEqual(found + list(lines), expected)

    def test_the_program_is_left_alone(self):
        program = [[("read", 0), ("full",), ("read", 1)], [], [("write", 2, 3)]]
        list(LOOSE.lines(program))
        self.assertEqual(program, [[("read", 0), ("full",), ("read", 1)], [], [("write", 2, 3)]])

    def test_two_generators_at_once(self):
        program = [[("read", 0), ("read", 1)], [("read", 2)]]
        pairs = list(zip(LOOSE.lines(program), LOOSE.lines(program)))
        self.assertEqual(len(pairs), 6)
        for one, other in pairs:
            self.assertEqual(one, other)
            self.assertIsNot(one, other)

    def test_an_error_comes_with_the_first_line(self):
        lines = LOOSE.lines([[("read", 10)]])
        self.assertIs(type(lines), GeneratorType)
        with self.assertRaises(InvalidProgram) as caught:
            next(lines)
        self.assertEqual((caught.exception.thread, caught.exception.index), (0, 0))
        lines = LOOSE.lines([[("read", 1)], [("full",), ("other",), ("another",)]])
        with self.assertRaises(UnknownName) as caught:
            next(lines)
        self.assertEqual(caught.exception.name, "other")

    def test_the_first_line_comes_without_the_others(self):
        # All lines of this program would never come to an end.
        program = [[("read", 0)] * 20]
        lines = LOOSE.lines(program)
        self.assertEqual(next(lines), [(0, number) for number in range(20)])
        self.assertEqual(next(lines)[-2:], [(0, 19), (0, 18)])
