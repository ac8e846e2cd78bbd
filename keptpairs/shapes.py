"""Shapes: the small programs that show an order to be lost.

A shape is a list of threads. Their instructions are written as in a program, but the writes have no values yet.
"""

from keptpairs.pairs import KINDS, READS, WRITES
from keptpairs.programs import accesses_of


def at_cell(names, cell):
    """The kinds among the names as accesses to this cell, the fences as they are."""
    return [(name, cell) if name in KINDS else (name,) for name in names]


def with_values(threads):
    """A program from a shape; its writes have different values."""
    program = []
    value = 0
    for thread in threads:
        filled = []
        for word in thread:
            if word[0] in WRITES:
                value += 1
                filled.append(word + (value,))
            else:
                filled.append(word)
        program.append(filled)
    return program


def size_of(threads):
    """How many accesses the threads have."""
    return len([word for thread in threads for word in thread if len(word) > 1])


def line_around(program, early):
    """The line with these numbers of the first thread first, then all other threads, then the rest of it."""
    names = [access.name for access in accesses_of(program)]
    ahead = [name for name in names if name[0] == 0 and name[1] in early]
    others = [name for name in names if name[0] > 0]
    return ahead + others + [name for name in names if name[0] == 0 and name[1] not in early]


def _seen_by(kind):
    # A write follows a read that does not see it yet; a read follows a write that it sees.
    return "write" if kind in READS else "read"


def observer(first, second):
    """A thread that follows the second of two accesses and goes ahead of the first, both told with their cells."""
    return [(_seen_by(second[0]), second[1]), ("full",), (_seen_by(first[0]), first[1])]
