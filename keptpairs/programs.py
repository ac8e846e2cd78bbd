"""Programs: which are valid, what their accesses are, and how the accesses act one after another."""

from keptpairs.errors import InvalidProgram
from keptpairs.pairs import KINDS, READS, WRITES

LETTERS = "abcdefghijklmnopqrstuvwxyz"
LONGEST_NAME = 8
LAST_CELL = 9
TOP_VALUE = 1000000000


def is_integer(item):
    """Whether the item is an integer; True and False are none."""
    return isinstance(item, int) and not isinstance(item, bool)


def is_fence_name(word):
    """Whether a fence may have this name."""
    if not isinstance(word, str) or word in KINDS:
        return False
    return 1 <= len(word) <= LONGEST_NAME and all([letter in LETTERS for letter in word])


def _is_cell(item):
    return is_integer(item) and 0 <= item <= LAST_CELL


def _is_value(item):
    return is_integer(item) and 1 <= item <= TOP_VALUE


def _is_instruction(item):
    if not isinstance(item, tuple) or len(item) == 0:
        return False
    if item[0] in READS:
        return len(item) == 2 and _is_cell(item[1])
    if item[0] in WRITES:
        return len(item) == 3 and _is_cell(item[1]) and _is_value(item[2])
    return len(item) == 1 and is_fence_name(item[0])


def check_program(program):
    """Raise InvalidProgram for the first instruction that is not valid."""
    for place, thread in enumerate(program):
        for index, instruction in enumerate(thread):
            if not _is_instruction(instruction):
                raise InvalidProgram(place, index)


def fences_in(instructions):
    """The names of the fences among valid instructions, in their order."""
    return [instruction[0] for instruction in instructions if len(instruction) == 1]


class Access:
    """An access of a program: its thread, its name, and the index of its instruction in the thread."""

    def __init__(self, thread, number, index, instruction):
        self.thread = thread
        self.name = (thread, number)
        self.index = index
        self.kind = instruction[0]
        self.cell = instruction[1]
        self.value = instruction[2] if len(instruction) == 3 else 0


def accesses_of(program):
    """The accesses of a valid program, in the order of their names."""
    found = []
    for place, thread in enumerate(program):
        number = 0
        for index, instruction in enumerate(thread):
            if len(instruction) > 1:
                found.append(Access(place, number, index, instruction))
                number += 1
    return found


def _is_name(item):
    # (0, 0) == (False, 0.0), so equality with a name does not make a name.
    return isinstance(item, tuple) and all([is_integer(part) for part in item])


def places_in(accesses, line):
    """The places of the accesses in the order of the line, or None if it does not name each access once."""
    names = [access.name for access in accesses]
    if not isinstance(line, list) or len(line) != len(names):
        return None
    if not all([_is_name(item) for item in line]) or not all([name in line for name in names]):
        return None
    return [names.index(name) for name in line]


# A state is (placed, reads, contents), three tuples: for each access whether it is placed and
# what it has read, and for each cell what it holds. States are compared, so they are plain.


def first_state(accesses):
    """The state in which no access is placed and every cell holds 0."""
    return tuple([False for _ in accesses]), tuple([0 for _ in accesses]), tuple([0 for _ in range(LAST_CELL + 1)])


def _changed(values, at, value):
    return values[:at] + (value,) + values[at + 1:]


def _value_read(accesses, state, at):
    placed, _, contents = state
    read = accesses[at]
    own = [access.value for k, access in enumerate(accesses[:at])
           if access.thread == read.thread and access.cell == read.cell
           and access.kind in WRITES and not placed[k]]
    return own[-1] if own else contents[read.cell]


def next_state(accesses, state, at):
    """The state after the access at this place follows in the line."""
    placed, reads, contents = state
    access = accesses[at]
    if access.kind in WRITES:
        contents = _changed(contents, access.cell, access.value)
    else:
        reads = _changed(reads, at, _value_read(accesses, state, at))
    return _changed(placed, at, True), reads, contents


def outcome_in(accesses, state):
    """The outcome of the program in a state in which every access is placed."""
    _, reads, contents = state
    cells = [access.cell for access in accesses]
    taken = tuple([reads[k] for k, access in enumerate(accesses) if access.kind in READS])
    return taken, tuple([contents[cell] for cell in range(LAST_CELL + 1) if cell in cells])
