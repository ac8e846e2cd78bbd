"""Point 15 of the document a second time, for books that are described as in tests/oracle.py."""

from itertools import product

from keptpairs.pairs import KINDS
from tests import oracle
from tests.oracle import EVERY, is_read
from tests.tables_oracle import fence_keeps, fences_of


def keeps(book, a, b, fence):
    return (a, b) in book[0] or (fence is not None and fence_keeps(book, fence, (a, b)))


def binds_no_more(book, k, m):
    for c, fence in product(KINDS, [None] + fences_of(book)):
        if keeps(book, k, c, fence) and not keeps(book, m, c, fence):
            return False
        if keeps(book, c, k, fence) and not keeps(book, c, m, fence):
            return False
    return True


def may_exchange(book, first, second, same_cell=False):
    if first in KINDS and second in KINDS:
        if (first, second) in book[0]:
            return False
        return not same_cell or (is_read(first) and is_read(second) and not book[3])
    if first in KINDS:
        return all(pair in book[0] for pair in EVERY if pair[0] == first and fence_keeps(book, second, pair))
    if second in KINDS:
        return all(pair in book[0] for pair in EVERY if pair[1] == second and fence_keeps(book, first, pair))
    return True


def may_drop_read(book, first, second):
    return binds_no_more(book, second, first)


def may_drop_write(book, first, second):
    return binds_no_more(book, first, second)


def may_drop_fence(book, stays, dropped):
    return all(pair in book[0] or fence_keeps(book, stays, pair) for pair in EVERY if fence_keeps(book, dropped, pair))


def smallest_size(what, book, first, second):
    """The number of accesses of a smallest program that shows the change, which is not right."""
    kinds = [kind for kind in (first, second) if kind in KINDS]
    if what == "near":
        return 3 if is_read(first) and is_read(second) else 2
    if what == "forward":
        return min(forward_sizes(book, first, second))
    if what == "drop_write":
        return 5
    if what == "drop_read":
        reads = [c for c in KINDS if is_read(c) for fence in [None] + fences_of(book)
                 if keeps(book, c, second, fence) and not keeps(book, c, first, fence)
                 or keeps(book, second, c, fence) and not keeps(book, first, c, fence)]
        return 4 if reads and not book[3] else 5
    if what == "exchange" and len(kinds) == 2:
        return 4
    if what == "drop_fence":
        pairs = [pair for pair in EVERY if fence_keeps(book, second, pair) and not fence_keeps(book, first, pair)]
    elif first in KINDS:
        pairs = [pair for pair in EVERY if fence_keeps(book, second, pair) and pair[0] == first]
    else:
        pairs = [pair for pair in EVERY if fence_keeps(book, first, pair) and pair[1] == second]
    reads = [pair for pair in pairs if pair not in book[0] and is_read(pair[0]) and is_read(pair[1])]
    return 3 if reads and not book[3] else 4


def access(kind, cell):
    return (kind, cell) if is_read(kind) else (kind, cell, 1)


def chains(book, thread):
    """A dict from each access of the thread to those that are before it, by their words."""
    places = [k for k, word in enumerate(thread) if word is not None and len(word) > 1]
    before = {k: set() for k in places}
    for b in places:
        for a in places:
            if a < b and oracle.ordered(book, [word or () for word in thread], a, b):
                before[b] |= {a} | before[a]
    return before


def may_forward(book, write, read):
    return not forward_sizes(book, write, read)


def forward_sizes(book, write, read):
    """For each thread c f w r m g e that is not as point 15 says, the number of accesses that show it.

    What is absent is None. Two reads of one cell are observed by one write, everything else by two accesses.
    """
    fences = [None] + [(name,) for name in fences_of(book)]
    ahead = [None] + [access(kind, 1) for kind in KINDS] + [access(kind, 0) for kind in KINDS if is_read(kind)]
    middle = [None] + [access(kind, 0) for kind in KINDS if is_read(kind)]
    behind = [None] + [access(kind, 2) for kind in KINDS]
    own = (access(write, 0), access(read, 0))
    sizes = set()
    for c, f, m, g, e in product(ahead, fences, middle, fences, behind):
        thread = [word for word in (c, f, *own, m, g, e) if word is not None]
        many = sum(len(word) > 1 for word in thread)
        for a, b in lost_orders(book, thread, thread.index(own[0]), c is not None, e is not None):
            reads = a is not None and a == c and b == e and c[1] == 1 and is_read(c[0]) and is_read(e[0])
            sizes.add(many + (1 if reads and not book[3] else 2))
    return sizes


def lost_orders(book, thread, w, with_c, with_e):
    """The (first, second) accesses of which only the read keeps the order; the write stands at w, the read behind."""
    without = thread[:w + 1] + thread[w + 2:]
    whole, less = chains(book, thread), chains(book, without)
    if with_c and 0 in whole[w + 1] and 0 not in whole[w]:
        yield thread[0], thread[w]
    if with_e:
        last = len(thread) - 1
        for k in [0, w] if with_c else [w]:
            if k in whole[last] and k not in less[last - 1]:
                yield thread[k], thread[last]
