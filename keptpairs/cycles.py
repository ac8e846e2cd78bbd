"""Cycles: the smallest programs that show a lost step of a table.

In each of them the accesses of the first thread from the number `cut` on are first in a line of the target,
then those of the other threads, and last those that the source puts ahead of them.
"""

from keptpairs.pairs import READS, WRITES
from keptpairs.shapes import at_cell, size_of
from keptpairs.steps import pair_steps


def _names_between(fence):
    return [] if fence is None else [fence]


def _write_to(table, cell):
    """A thread with one write of any kind that has a row."""
    return [([kind for kind in WRITES if kind in table][0], cell)]


def _stretched(step):
    """A thread in which a pair or own step orders an access to cell 0 ahead of one to cell 1."""
    fence, last = step[-2:]
    return at_cell(list(step[1:-2]) + _names_between(fence), 0) + at_cell([last], 1)


def _joined(table, step, partner):
    """A cycle of the step and a pair step; between two reads stands a write that only the second one sees."""
    _, first, fence, second = partner
    threads = [_stretched(step)]
    if step[-1] in READS and first in READS:
        threads.append(_write_to(table, 1))
    threads.append(at_cell([first], 1) + at_cell(_names_between(fence), 1) + at_cell([second], 0))
    if second in READS and step[1] in READS:
        threads.append(_write_to(table, 0))
    return threads, 1


def _reads_of_one_cell(table, step):
    """The programs in which two reads of one cell see one write in the wrong order."""
    names = [name for name in step[1:] if name is not None]
    if names[0] not in READS or names[-1] not in READS or table.target.coherent:
        return []
    return [([at_cell(names, 0), _write_to(table, 0)], 1)]


def _reads_around(table, step, pairs):
    """The programs in which a read ahead of an own step and the read at its end see one write."""
    if step[-1] not in READS or table.target.coherent:
        return []
    found = []
    for _, first, fence, write in pairs:
        ahead = [first] + _names_between(fence) + [step[1], step[2]]
        names = ahead + _names_between(step[3]) + [step[4]]
        if first not in READS or write != step[1] or table.connects(ahead) or table.connects(names):
            continue
        thread = at_cell([first], 1) + at_cell(names[1:-1], 0) + at_cell([step[4]], 1)
        found.append(([thread, _write_to(table, 1)], 2))
    return found


def _partners(pairs):
    """One pair step for each choice of reads and writes; others give no smaller cycle."""
    found = {}
    for step in pairs:
        found.setdefault((step[1] in READS, step[3] in READS), step)
    return list(found.values())


def _cycles_of(table, step, pairs):
    """The candidates for a smallest program that shows this lost step, as (threads, cut)."""
    if step[0] == "reads":
        return _reads_of_one_cell(table, step)
    joined = [_joined(table, step, partner) for partner in _partners(pairs)]
    if step[0] == "pair":
        return joined + _reads_of_one_cell(table, step)
    return joined + _reads_around(table, step, pairs)


def smallest_cycle(table, missing):
    """The (threads, cut, step) with the fewest accesses; some steps are lost, and a write kind has a row."""
    pairs = pair_steps(table)
    best = None
    least = None
    for step in missing:
        for threads, cut in _cycles_of(table, step, pairs):
            size = size_of(threads)
            if least is None or size < least:
                best = (threads, cut, step)
                least = size
    return best
