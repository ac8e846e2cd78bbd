"""Point 16: programs at the bounds are ordinary inputs for each of the four functions."""

import unittest
from itertools import product
from math import factorial

from keptpairs.books import Book
from keptpairs.pairs import KINDS, Pairs
from tests import oracle

LOOSE = Book(Pairs(), early=True, coherent=False)
FENCES = {"a": Pairs([("read", "read")]), "b": Pairs(), "c": Pairs([("write", "write")])}


def arrangements(accesses, threads):
    """All ways to deal so many accesses to so many threads."""
    return [sizes for sizes in product(range(accesses + 1), repeat=threads) if sum(sizes) == accesses]


def program_of(sizes, instructions):
    """A program with threads of these sizes from the given accesses."""
    rest = list(instructions)
    program = []
    for size in sizes:
        program.append(rest[:size])
        rest = rest[size:]
    return program


MIXED = [("write", 0, 1), ("read", 1), ("acquire", 0), ("write", 1, 2), ("release", 2, 3), ("read", 2), ("read", 0)]
APART = [("read", cell) for cell in range(7)]
WRITES = [("write", cell, cell + 1) for cell in range(7)]
ONE_CELL = [("write", 0, 1), ("read", 0), ("read", 0), ("write", 0, 2), ("read", 0), ("write", 0, 3), ("read", 0)]


class SevenAccessesTest(unittest.TestCase):

    def assert_answers(self, book, program, lines=None):
        outcomes = book.outcomes(program)
        found = list(book.lines(program))
        if lines is not None:
            self.assertEqual(len(found), lines)
        self.assertEqual(found, sorted(found))
        told = [book.run(program, line) for line in (found[0], found[len(found) // 2], found[-1])]
        self.assertEqual(told[0], outcomes[0])
        for outcome in told:
            self.assertIn(outcome, outcomes)
            self.assertIs((program, outcome) in book, True)
        self.assertIs((program, ((8,) * 7, (8,) * 7)) in book, False)

    def test_every_arrangement_over_one_to_four_threads(self):
        for threads in range(1, 5):
            for sizes in arrangements(7, threads):
                with self.subTest(sizes):
                    sequential = factorial(7)
                    for size in sizes:
                        sequential //= factorial(size)
                    self.assert_answers(Book.sequential(), program_of(sizes, MIXED), sequential)
                    self.assert_answers(Book.relaxed(), program_of(sizes, MIXED))

    def test_no_order_at_all(self):
        for instructions in (APART, WRITES):
            for sizes in ([7], [3, 4], [0, 7, 0, 0], [2, 2, 2, 1]):
                self.assert_answers(LOOSE, program_of(sizes, instructions), factorial(7))

    def test_one_cell(self):
        for sizes in ([7], [4, 3], [1, 2, 4], [2, 2, 2, 1]):
            for book in (Book.sequential(), Book.buffered(), Book.relaxed(), LOOSE):
                self.assert_answers(book, program_of(sizes, ONE_CELL))

    def test_each_outcome_against_the_lines(self):
        for sizes in ([7], [2, 5], [3, 1, 3], [2, 2, 2, 1]):
            for instructions in (MIXED, ONE_CELL):
                program = program_of(sizes, instructions)
                for book in (Book.buffered(), Book.relaxed(), LOOSE):
                    told = [oracle.run(program, line) for line in book.lines(program)]
                    self.assertEqual(book.outcomes(program), list(dict.fromkeys(told)))


class ManyInstructionsTest(unittest.TestCase):

    def padded(self, instructions, names, many):
        """The instructions with that many fences in all, spread ahead of, between and behind them."""
        share, more = divmod(many, len(instructions) + 1)
        thread = []
        for k in range(len(instructions) + 1):
            thread += [(names[n % len(names)],) for n in range(share + (1 if k < more else 0))]
            thread += instructions[k:k + 1]
        return thread

    def test_one_thread_of_300_instructions(self):
        book = Book(Pairs(), fences=FENCES, early=True, coherent=False)
        program = [self.padded(APART, ["b"], 293)]
        self.assertEqual(len(program[0]), 300)
        self.assertEqual(len(list(book.lines(program))), factorial(7))
        self.assertEqual(book.outcomes(program), [((0,) * 7, (0,) * 7)])
        self.assertIs((program, ((0,) * 7, (0,) * 7)) in book, True)
        names = [(0, number) for number in range(7)]
        self.assertEqual(book.run(program, names[::-1]), ((0,) * 7, (0,) * 7))
        program = [self.padded(APART, ["b", "a", "c"], 293)]
        self.assertEqual(list(book.lines(program)), [names])
        program = [self.padded(WRITES, ["b", "full"], 293)]
        self.assertEqual(list(book.lines(program)), [names])

    def test_four_threads_of_300_instructions(self):
        book = Book(Pairs(), fences=FENCES, early=True)
        parts = [MIXED[:2], MIXED[2:4], MIXED[4:6], MIXED[6:]]
        fenced = [self.padded(part, ["b"], 75 - len(part)) for part in parts]
        self.assertEqual(sum(len(thread) for thread in fenced), 300)
        self.assertEqual(list(book.lines(fenced)), list(book.lines(parts)))
        self.assertEqual(book.outcomes(fenced), book.outcomes(parts))
        line = list(book.lines(parts))[-1]
        outcome = book.run(parts, line)
        self.assertEqual(book.run(fenced, line), outcome)
        self.assertIs((fenced, outcome) in book, True)
        self.assertIs((fenced, (outcome[0][1:], outcome[1])) in book, False)

    def test_fences_alone(self):
        book = Book(Pairs(), fences=FENCES)
        for program in ([[("full",)] * 300], [[("a",)] * 75, [("b",)] * 75, [("c",)] * 75, [("full",)] * 75]):
            self.assertEqual(list(book.lines(program)), [[]])
            self.assertEqual(book.outcomes(program), [((), ())])
            self.assertEqual(book.run(program, []), ((), ()))
            self.assertIs((program, ((), ())) in book, True)

    def test_somewhat_beyond_the_bounds(self):
        book = Book(Pairs(), fences={name: Pairs() for name in "abcdef"}, early=True, coherent=False)
        program = [[("write", 0, 1), ("f",), ("read", 1)], [("write", 1, 1)], [("read", 0)], [("read", 1)],
                   [("read", 0), ("read", 2)], [("write", 2, 2)]]
        outcomes = book.outcomes(program)
        self.assertEqual(len(outcomes), len(set(outcomes)))
        line = next(book.lines(program))
        self.assertEqual(book.run(program, line), outcomes[0])
        self.assertIs((program, outcomes[-1]) in book, True)
        self.assertIs(book.ordered([("read", 0)] + [("full",)] * 400 + [("read", 1)], 0, 401), True)

    def test_every_kind_in_every_place(self):
        for first, second in product(KINDS, KINDS):
            words = [(kind, 0) if kind in ("read", "acquire") else (kind, 0, 7) for kind in (first, second)]
            program = [words, [("write", 0, 3)]]
            for book in (Book.sequential(), Book.buffered(), Book.relaxed()):
                told = [oracle.run(program, line) for line in book.lines(program)]
                self.assertEqual(book.outcomes(program), list(dict.fromkeys(told)))
