"""Forwarding: the threads in which a read directly behind a write to its cell keeps more order than the write.

Such a thread is c f w r m g e. What stands ahead of the write is its head (c f), what stands behind the
read its tail (m g e); either may be empty.
"""

from keptpairs.pairs import KINDS, READS
from keptpairs.shapes import observer

OWN_CELL = 0
HEAD_CELL = 1
TAIL_CELL = 2


def _before(book, thread, first, last):
    """Whether the accesses at these indices are kept in order, directly or by a chain."""
    reached = [first]
    for at in range(first + 1, last + 1):
        if len(thread[at]) > 1 and any([book.ordered(thread, k, at) for k in reached]):
            reached.append(at)
    return last in reached


def _gaps(book):
    return [[]] + [[(name,)] for name in book.names]


def _heads(book, own, kinds, cell):
    """The heads with one of the kinds at the cell that are kept ahead of the read; own is the write and the read."""
    heads = [[(kind, cell)] + gap for kind in kinds for gap in _gaps(book)]
    return [head for head in heads if _before(book, head + own, 0, len(head) + 1)]


def _tails(book, own, middles):
    """The tails with one of the middles whose last access is kept behind the read, but not behind the write alone."""
    tails = [middle + gap + [(kind, TAIL_CELL)] for middle in middles for gap in _gaps(book) for kind in KINDS]
    return [tail for tail in tails
            if _before(book, own[1:] + tail, 0, len(tail)) and not _before(book, own[:1] + tail, 0, len(tail))]


def _at_head_cell(tails):
    return [tail[:-1] + [(tail[-1][0], HEAD_CELL)] for tail in tails if tail[-1][0] in READS]


def _unordered(book, heads, own, tails):
    """The first (head, tail) of which only the read keeps the ends in order, or None."""
    for head in heads:
        for tail in tails:
            thread = head + own[:1] + tail
            if not _before(book, thread, 0, len(thread) - 1):
                return head, tail
    return None


def _with_head(book, own, plain, longer):
    """As smallest_loss tells, where neither a head nor a tail alone shows anything."""
    heads = _heads(book, own, KINDS, HEAD_CELL)
    reads = [head for head in heads if head[0][0] in READS]
    # Two reads of one cell are observed by one write. A middle shows nothing more here: the head is kept ahead
    # of the forwarded read but not of the last one, so their kinds differ, and the middle is of one of the two.
    found = _unordered(book, reads, own, _at_head_cell(plain))
    if found is not None:
        return found[0], found[1], [("write", HEAD_CELL)], 2
    heads = heads + _heads(book, own, READS, OWN_CELL)
    for tails in (plain, longer):
        found = _unordered(book, heads, own, tails)
        if found is not None:
            return found[0], found[1], observer(found[0][0], found[1][-1]), 2
    return None


def smallest_loss(book, write, read):
    """The (head, tail, other thread, cut) of a smallest program that shows that the read keeps more; or None.

    The accesses from the number cut on, in the thread without the read, may be ahead of the others.
    """
    own = [(write, OWN_CELL), (read, OWN_CELL)]
    for head in _heads(book, own, KINDS, HEAD_CELL):
        if not _before(book, head + own, 0, len(head)):
            # Only a write behind the own one is seen by the read, if it is kept behind it.
            return head, [], observer(head[0], own[1]), 1
    plain = _tails(book, own, [[]])
    longer = _tails(book, own, [[(kind, OWN_CELL)] for kind in READS])
    if not book.ordered(own, 0, 1):
        return _with_head(book, own, plain, longer)
    if not plain and not longer:
        return None
    tail = (plain + longer)[0]
    return [], tail, observer(own[0], tail[-1]), 1
