"""Point 5 and keptpairs/programs.py."""

import unittest

from keptpairs.errors import InvalidProgram
from keptpairs.programs import check_program

VALID = [
    ("read", 0), ("acquire", 9), ("write", 0, 1), ("release", 9, 10 ** 9), ("write", 5, 999999999),
    ("full",), ("a",), ("z",), ("abcdefgh",), ("fence",), ("reads",), ("kind",),
]

NOT_VALID = [
    (),
    ["read", 0],
    ["full"],
    "full",
    "read",
    None,
    7,
    {"read": 0},
    ("read",), ("acquire",), ("write",), ("release",),
    ("read", 0, 1), ("acquire", 0, 1), ("read", 0, None), ("read", 0, 0, 0),
    ("write", 0), ("release", 0), ("write", 0, 1, 1), ("release", 0, 1, 2),
    ("read", -1), ("read", 10), ("acquire", -1), ("acquire", 10),
    ("write", -1, 1), ("write", 10, 1), ("release", -1, 1), ("release", 10, 1),
    ("write", 0, 0), ("write", 0, -1), ("write", 0, 10 ** 9 + 1), ("release", 0, 0), ("release", 0, 10 ** 9 + 1),
    ("read", True), ("read", False), ("acquire", True), ("acquire", False),
    ("write", True, 1), ("write", False, 1), ("write", 0, True), ("release", 0, True), ("release", 0, False),
    ("read", "0"), ("read", None), ("read", 0.0), ("read", (0,)), ("write", 0, "1"), ("write", 0, None),
    ("write", 0, 1.0), ("write", [0], 1), ("write", 0, [1]),
    ("full", 0), ("full", 0, 1), ("a", 0), ("full", "full"), ("a", None), ("", 0),
    ("",), ("ninechars",), ("abcdefghi",), ("Full",), ("aB",), ("a1",), ("1",), ("a b",), (" a",), ("a_b",),
    ("a\n",), ("a-b",), ("\u00e4",), ("\u0430",), ("\u00df",),
    ("Read", 0), ("Write", 0, 1), ("load", 0), ("store", 0, 1),
    (None,), (0,), (True,), (b"full",), (["full"],), (("full",),), (None, 0), (0, "read"), (["read"], 0),
]


class CheckProgramTest(unittest.TestCase):

    def assert_told(self, program, thread, index):
        with self.assertRaises(InvalidProgram) as caught:
            check_program(program)
        self.assertEqual((caught.exception.thread, caught.exception.index), (thread, index))

    def test_valid_instructions(self):
        for instruction in VALID:
            with self.subTest(instruction):
                self.assertIsNone(check_program([[instruction]]))
        self.assertIsNone(check_program([list(VALID), list(VALID)]))

    def test_empty_threads(self):
        for many in range(1, 5):
            self.assertIsNone(check_program([[] for _ in range(many)]))
        self.assertIsNone(check_program([[], [("full",)], [], [("read", 1)]]))

    def test_each_cell(self):
        for cell in range(10):
            self.assertIsNone(check_program([[("read", cell), ("write", cell, 1)]]))

    def test_instructions_that_are_not_valid(self):
        for k, instruction in enumerate(NOT_VALID):
            with self.subTest(k, instruction=instruction):
                self.assert_told([[instruction]], 0, 0)

    def test_at_each_place(self):
        for instruction in NOT_VALID:
            for thread in range(4):
                for index in range(3):
                    program = [[("read", 0), ("write", 1, 2), ("full",)] for _ in range(4)]
                    program[thread][index] = instruction
                    self.assert_told(program, thread, index)

    def test_the_first_is_told(self):
        self.assert_told([[("read", 0), ("read", 10), ("read", 11)], [("read", 12)]], 0, 1)
        self.assert_told([[], [("full",), ("x", 1)], [None]], 1, 1)
        self.assert_told([[("read", 0), ("write", 0)], [("write", 0)]], 0, 1)

    def test_fences_count_for_the_index(self):
        self.assert_told([[("full",), ("full",), ("read", 0), ("full",), ("read", 10)]], 0, 4)

    def test_the_program_is_left_alone(self):
        program = [[("read", 0), ("full",)], [], [("write", 3, 4)]]
        check_program(program)
        self.assertEqual(program, [[("read", 0), ("full",)], [], [("write", 3, 4)]])

    def test_sizes_beyond_the_bounds_are_no_error(self):
        self.assertIsNone(check_program([]))
        self.assertIsNone(check_program([[("read", 0)] for _ in range(6)]))
        self.assertIsNone(check_program([[("read", 0)] * 400]))
