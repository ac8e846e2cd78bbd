"""All small programs, and the search for one that shows that a table or a change is not right."""

from itertools import combinations, product

from keptpairs.pairs import KINDS
from tests.oracle import is_read


def size(program):
    return sum(len(instruction) > 1 for thread in program for instruction in thread)


def partitions(many, largest=None):
    """All ways to split so many accesses into threads, the larger ones first."""
    if many == 0:
        return [[]]
    return [[first] + rest for first in range(min(many, largest or many), 0, -1)
            for rest in partitions(many - first, first)]


def cells(many, used=0):
    """All ways to give cells to so many accesses, where a new cell is always the next one."""
    if many == 0:
        return [[]]
    return [[cell] + rest for cell in range(used + 1) for rest in cells(many - 1, max(used, cell + 1))]


def subsets(words):
    return [part for many in range(len(words) + 1) for part in combinations(words, many)]


def access(kind, cell, value):
    return (kind, cell) if is_read(kind) else (kind, cell, value)


def thread_of(kinds, places, gaps, first_value):
    thread = []
    for k, (kind, cell) in enumerate(zip(kinds, places)):
        thread.append(access(kind, cell, first_value + k))
        if k < len(gaps):
            thread += [(name,) for name in gaps[k]]
    return thread


def filled(sizes, options, gaps):
    """All programs with threads of these sizes; for each access and for each gap it is told what may stand there."""
    for places, words in product(cells(sum(sizes)), product(*options)):
        for between in product(*gaps):
            program, at, gap = [], 0, 0
            for length in sizes:
                program.append(thread_of(words[at:at + length], places[at:at + length],
                                         between[gap:gap + length - 1], at + 1))
                at += length
                gap += length - 1
            yield program


def programs(kinds, fences, many, threads=4):
    """All programs with so many accesses; between two of one thread stands any set of the fences."""
    for sizes in partitions(many):
        if len(sizes) <= threads:
            yield from filled(sizes, [kinds] * many, [subsets(fences)] * (many - len(sizes)))


def orders(book, thread):
    """The (first, second) numbers of accesses whose order is kept, directly or by a chain."""
    indices = [index for index, word in enumerate(thread) if len(word) > 1]
    found = set()
    for second in range(len(indices)):
        for first in range(second - 1, -1, -1):
            if book.ordered(thread, indices[first], indices[second]):
                found.add((first, second))
                found.update((early, second) for early, late in list(found) if late == first)
    return found


class TableSearch:
    """Searches for programs that show that a table is not right."""

    def __init__(self, table):
        self.table = table
        self.known = {}

    def loses(self, thread):
        """Whether the source keeps an order in the thread that the target does not keep in the compiled one.

        A program without such a thread has no line in the target that is none in the source.
        """
        key = tuple(word[:2] for word in thread)
        if key not in self.known:
            [words] = self.table([thread])
            self.known[key] = bool(orders(self.table.source, thread) - orders(self.table.target, words))
        return self.known[key]

    def shows(self, program):
        if not any(self.loses(thread) for thread in program):
            return False
        let = set(self.table.target.outcomes(self.table(program)))
        return bool(let - set(self.table.source.outcomes(program)))

    def first_shown(self, many):
        """A program with at most so many accesses that shows it, or None."""
        kinds = [name for name in self.table if name in KINDS]
        fences = [name for name in self.table if name not in KINDS]
        for size_now in range(1, many + 1):
            for program in programs(kinds, fences, size_now):
                if self.shows(program):
                    return program
        return None


# A change is (what, first, second), what being "exchange", "near" (an exchange in one cell), "drop_read",
# "drop_write", "drop_fence" or "forward".


def changed_pair(what, pair):
    """What stands in the changed program for the two instructions of the original."""
    if what in ("exchange", "near"):
        return pair[::-1]
    return pair[1:] if what == "drop_write" else pair[:1]


def stated(what, original, changed, index, outcome):
    """An outcome of the changed program, stated for the accesses of the original; point 14, by access and not by name.

    Instructions are compared as objects, so each instruction of the original stands there only once.
    """
    reads = [word for thread in changed for word in thread if is_read(word[0])]
    taken = {id(word): value for word, value in zip(reads, outcome[0])}
    first, second = original[0][index:index + 2]
    if what == "drop_read":
        taken[id(second)] = taken[id(first)]
    if what == "forward":
        taken[id(second)] = first[2]
    told = [taken[id(word)] for thread in original for word in thread if is_read(word[0])]
    return tuple(told), outcome[1]


def as_objects(program):
    """The program with an object of its own for each instruction."""
    return [[tuple(list(word)) for word in thread] for thread in program]


def replaced(what, program, index):
    """The changed program; it shares its instructions with the original."""
    thread = program[0]
    pair = changed_pair(what, thread[index:index + 2])
    return [thread[:index] + pair + thread[index + 2:]] + [list(other) for other in program[1:]]


class ChangeSearch:
    """Searches for surroundings in which a change is not right."""

    def __init__(self, book, what, first, second):
        self.book = book
        self.what = what
        self.pair = (first, second)
        self.known = {}

    def loses(self, program, changed, index):
        """Whether the original keeps an order in its thread that the changed thread does not keep.

        Without such an order each line of the changed program becomes a line of the original: the accesses
        are the same, and one that was dropped stands next to the one that stays. This does not hold for the
        exchange of a write with another access to its cell, which is always searched.
        """
        if self.what == "near" and not all(is_read(kind) for kind in self.pair):
            return True
        key = (index, tuple(word[:2] for word in program[0]))
        if key not in self.known:
            self.known[key] = self.loses_order(program[0], changed[0], index)
        return self.known[key]

    def loses_order(self, thread, changed, index):
        old = [k for k, word in enumerate(thread) if len(word) > 1]
        new = [k for k, word in enumerate(changed) if len(word) > 1]
        place = {id(changed[k]): number for number, k in enumerate(new)}
        stays = changed_pair(self.what, thread[index:index + 2])[0]
        where = [place.get(id(thread[k]), place.get(id(stays))) for k in old]
        kept = orders(self.book, changed)
        return any(where[a] != where[b] and (where[a], where[b]) not in kept for a, b in orders(self.book, thread))

    def shows(self, program, index):
        program = as_objects(program)
        changed = replaced(self.what, program, index)
        if not self.loses(program, changed, index):
            return False
        told = {stated(self.what, program, changed, index, outcome) for outcome in self.book.outcomes(changed)}
        return bool(told - set(self.book.outcomes(program)))

    def originals(self, many, kinds, threads):
        """All (original, index) with so many accesses in which the two instructions stand in the first thread."""
        for first in range(1, many + 1):
            for others in partitions(many - first):
                if len(others) < threads:
                    for place in range(first):
                        yield from self.originals_at([first] + others, kinds, place)

    def originals_at(self, sizes, kinds, place):
        """Those in which the first access of the change, or the one ahead of two fences, has this number."""
        many = sum(sizes)
        options = [kinds] * many
        gaps = [subsets(self.book.names)] * (many - len(sizes))
        words = [word for word in self.pair if word in KINDS]
        if place + len(words) > sizes[0]:
            return
        options[place:place + len(words)] = [[word] for word in words]
        if len(words) == 2:
            gaps[place] = [()]
        for program in filled(sizes, options, gaps):
            index = [k for k, word in enumerate(program[0]) if len(word) > 1][place]
            if len(words) == 2:
                one, other = program[0][index:index + 2]
                if (one[1] == other[1]) != (self.what == "exchange"):
                    yield program, index
            elif self.pair[1] in KINDS:
                program[0].insert(index, (self.pair[0],))
                yield program, index
            else:
                behind = [(word,) for word in self.pair if word not in KINDS]
                program[0][index + 1:index + 1] = behind
                yield program, index + len(behind) - 1

    def first_shown(self, many, kinds=KINDS, threads=4):
        """An (original, index) with at most so many accesses that shows it, or None."""
        for size_now in range(1, many + 1):
            for original, index in self.originals(size_now, kinds, threads):
                if self.shows(original, index):
                    return original, index
        return None
