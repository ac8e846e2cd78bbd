"""Judging: whether a table is right for all programs, and a smallest program that shows where it is not."""

from keptpairs.cycles import smallest_cycle
from keptpairs.errors import LetBy, NotKept
from keptpairs.pairs import WRITES
from keptpairs.shapes import line_around, size_of, with_values
from keptpairs.steps import is_lost, steps_of
from keptpairs.tables import identity


class Witness:
    """A program with an outcome that the target allows of the compiled program, but not the source of it."""

    def __init__(self, program, outcome, line, step):
        self.program = program
        self.outcome = outcome
        self.line = line
        self.step = step


def lost(table):
    """The lost steps of the table: pair, reads and own steps, each in name order."""
    return [step for step in steps_of(table) if is_lost(table, step)]


def must_keep(table, step):
    """Raise NotKept if this step of the table is lost."""
    if step in lost(table):
        raise NotKept(step)


def judge(table):
    """None if the table is right, otherwise a Witness."""
    missing = lost(table)
    # Without a write every read gives 0 in every book.
    if not missing or not any([name in WRITES for name in table]):
        return None
    threads, cut, step = smallest_cycle(table, missing)
    program = with_values(threads)
    compiled = table(program)
    line = line_around(compiled, list(range(cut, size_of(threads[:1]))))
    return Witness(program, table.target.run(compiled, line), line, step)


def compare(weaker, stronger, *, names=None):
    """None if the weaker book allows what the stronger one allows, otherwise a Witness."""
    return judge(identity(weaker, stronger, names=names))


def require(table):
    """Raise LetBy with a Witness if the table is not right."""
    witness = judge(table)
    if witness is not None:
        raise LetBy(witness) from NotKept(witness.step)
