"""Changes: whether two instructions may be exchanged, or one of them dropped, in all surroundings."""

from keptpairs.errors import UnknownName
from keptpairs.forwarding import OWN_CELL, smallest_loss
from keptpairs.pairs import KINDS, READS, WRITES
from keptpairs.programs import accesses_of
from keptpairs.shapes import at_cell, line_around, observer, size_of, with_values


class Surrounding:
    """An original and its changed program, with an outcome that the book allows of the changed one only."""

    def __init__(self, program, changed, index, outcome, line):
        self.program = program
        self.changed = changed
        self.index = index
        self.outcome = outcome
        self.line = line


def _check_name(name, names):
    if name not in names:
        raise UnknownName(name)


# Which of the two instructions stand in the changed program, and in which order.
EXCHANGED = (1, 0)
FIRST_STAYS = (0,)
SECOND_STAYS = (1,)


def _changed_thread(thread, index, stay):
    return thread[:index] + [thread[index + k] for k in stay] + thread[index + 2:]


def _source_of(index, at, stay):
    """The index in the changed thread of what gives the access at this index of the original its value."""
    if at < index:
        return at
    if at > index + 1:
        return at + len(stay) - 2
    # What was dropped has the value of what stays.
    return index + stay.index(at - index) if at - index in stay else index


def _stated(program, changed, index, stay, outcome):
    """The outcome of the changed program stated for the accesses of the original."""
    accesses = accesses_of(changed)
    taken, contents = outcome
    values = {(access.thread, access.index): access.value for access in accesses}
    reads = [access for access in accesses if access.kind in READS]
    for read, value in zip(reads, taken):
        values[(read.thread, read.index)] = value
    told = []
    for access in accesses_of(program):
        if access.kind in READS:
            at = _source_of(index, access.index, stay) if access.thread == 0 else access.index
            told.append(values[(access.thread, at)])
    return tuple(told), contents


def _surrounding(book, threads, index, stay, early):
    """The Surrounding of a shape; these numbers of the changed first thread come first in the line."""
    program = with_values(threads)
    changed = [_changed_thread(program[0], index, stay)] + [list(thread) for thread in program[1:]]
    line = line_around(changed, early)
    outcome = _stated(program, changed, index, stay, book.run(changed, line))
    return Surrounding(program, changed, index, outcome, line)


def _observed(book, left, right):
    """A smallest shape in which it is seen that an access on the right goes ahead of one on the left.

    Both sides begin with a kind.
    """
    first, second = left[0], right[0]
    if first in READS and second in READS and not book.coherent:
        return [at_cell(left + right, 0), [("write", 0)]]
    return [at_cell(left, 0) + at_cell(right, 1), observer((first, 0), (second, 1))]


def _smallest(book, candidates, stay):
    """The Surrounding of the smallest of the threads, which are told as (left, right, index); None without any."""
    best = None
    for left, right, index in candidates:
        threads = _observed(book, left, right)
        if best is None or size_of(threads) < size_of(best[0]):
            best = (threads, index)
    return None if best is None else _surrounding(book, best[0], best[1], stay, [1])


def _lost_of_fence(book, fence):
    """The pairs that are not kept without the fence."""
    return [(first, second) for first in KINDS for second in KINDS
            if book.keeps(first, second, between=[fence]) and not book.keeps(first, second)]


def _exchange_accesses(book, first, second, same_cell):
    if same_cell and (first in WRITES or second in WRITES):
        return _surrounding(book, [at_cell([first, second], 0)], 0, EXCHANGED, [])
    if same_cell and (book.coherent or book.keeps(first, second)):
        return _surrounding(book, [at_cell([first, second], 0), [("write", 0)]], 0, EXCHANGED, [0])
    if same_cell or not book.keeps(first, second):
        return None
    threads = [at_cell([first], 0) + at_cell([second], 1), observer((first, 0), (second, 1))]
    return _surrounding(book, threads, 0, EXCHANGED, [0])


def exchange(book, first, second, *, same_cell=False):
    """None if the two accesses or fences may be exchanged, otherwise a Surrounding."""
    _check_name(first, KINDS + book.names)
    _check_name(second, KINDS + book.names)
    if first in KINDS and second in KINDS:
        return _exchange_accesses(book, first, second, same_cell)
    candidates = []
    if first in KINDS:
        candidates = [([first, second], [b], 0) for a, b in _lost_of_fence(book, second) if a == first]
    if second in KINDS:
        candidates = [([a, first], [second], 1) for a, b in _lost_of_fence(book, first) if b == second]
    return _smallest(book, candidates, EXCHANGED)


def _drop_access(book, first, second, stay):
    """None if the access that stays binds as much as the dropped one, otherwise a Surrounding."""
    both = [first, second]
    stays, dropped = both[stay[0]], both[1 - stay[0]]
    candidates = []
    for gap in [[]] + [[name] for name in book.names]:
        for kind in KINDS:
            if book.keeps(dropped, kind, between=gap) and not book.keeps(stays, kind, between=gap):
                candidates.append((both + gap, [kind], 0))
            if book.keeps(kind, dropped, between=gap) and not book.keeps(kind, stays, between=gap):
                candidates.append(([kind] + gap, both, 1 + len(gap)))
    return _smallest(book, candidates, stay)


def drop_read(book, first, second):
    """None if the second of two reads of one cell may be dropped, otherwise a Surrounding."""
    _check_name(first, READS)
    _check_name(second, READS)
    return _drop_access(book, first, second, FIRST_STAYS)


def drop_write(book, first, second):
    """None if the first of two writes to one cell may be dropped, otherwise a Surrounding."""
    _check_name(first, WRITES)
    _check_name(second, WRITES)
    return _drop_access(book, first, second, SECOND_STAYS)


def drop_fence(book, stays, dropped):
    """None if one of two neighbouring fences may be dropped, otherwise a Surrounding."""
    _check_name(stays, book.names)
    _check_name(dropped, book.names)
    kept_still = _lost_of_fence(book, stays)
    candidates = [([a, stays, dropped], [b], 1) for a, b in _lost_of_fence(book, dropped) if (a, b) not in kept_still]
    return _smallest(book, candidates, FIRST_STAYS)


def forward(book, write, read):
    """None if a read behind a write to its cell may be replaced by the value written, otherwise a Surrounding."""
    _check_name(write, WRITES)
    _check_name(read, READS)
    found = smallest_loss(book, write, read)
    if found is None:
        return None
    head, tail, other, cut = found
    threads = [head + [(write, OWN_CELL), (read, OWN_CELL)] + tail, other]
    early = list(range(cut, size_of(threads[:1]) - 1))
    return _surrounding(book, threads, len(head), FIRST_STAYS, early)
