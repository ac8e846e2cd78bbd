"""Points 9 to 13 of the document a second time, slow and without the package's tables.

Books are described as in tests/oracle.py. The rows of a table are a dict from names to tuples of words.
"""

from itertools import combinations, product
from random import Random

from keptpairs.books import Book
from keptpairs.pairs import KINDS, Pairs
from keptpairs.tables import Table
from tests import oracle
from tests.oracle import EVERY, is_read

READS = ("read", "acquire")
WRITES = ("write", "release")


def fences_of(description):
    return sorted(list(description[1]) + ["full"])


def fence_keeps(description, fence, pair):
    return fence == "full" or pair in description[1][fence]


def in_name_order(names):
    return [kind for kind in KINDS if kind in names] + sorted(set(names) - set(KINDS))


def table_of(source, target, rows):
    table = Table(oracle.make(source), oracle.make(target))
    for name in rows:
        table[name] = rows[name]
    return table


def rows_of(table):
    return {name: table[name] for name in table}


def compiled(rows, program):
    found = []
    for thread in program:
        words = []
        for instruction in thread:
            for word in rows[instruction[0]]:
                words.append((word,) if word not in KINDS else (word, *instruction[1:]))
        found.append(words)
    return found


def connects(target, rows, names):
    """By the order of the first and the last access of a compiled thread in which no two accesses share a cell."""
    thread = []
    for cell, name in enumerate(names):
        if name not in KINDS:
            thread.append((name,))
        else:
            thread.append((name, cell) if is_read(name) else (name, cell, 1))
    [words] = compiled(rows, [thread])
    places = [k for k, word in enumerate(words) if len(word) > 1]
    return oracle.ordered(target, words, places[0], places[-1])


def source_keeps(source, a, f, b):
    """Whether ("pair", a, f, b) is a step, if all of its names have rows."""
    if f is None:
        return (a, b) in source[0]
    return (a, b) not in source[0] and fence_keeps(source, f, (a, b))


def steps(source, rows):
    kinds = [name for name in rows if name in KINDS]
    fences = [None] + [name for name in rows if name not in KINDS]
    found = set()
    for a, f, b in product(kinds, fences, kinds):
        if source_keeps(source, a, f, b):
            found.add(("pair", a, f, b))
        if source[3] and is_read(a) and is_read(b):
            found.add(("reads", a, b))
    for w, r, f, e in product(kinds, kinds, fences, kinds):
        if not is_read(w) and is_read(r) and source_keeps(source, r, f, e) and not source[2]:
            found.add(("own", w, r, f, e))
    return found


def is_lost(target, rows, step):
    names = [name for name in step[1:] if name is not None]
    if step[0] == "reads" and target[3]:
        return False
    if step[0] == "own" and (not target[2] or connects(target, rows, names[:2])):
        return False
    return not connects(target, rows, names)


def place_in_order(step):
    """Where a step stands among all steps: pair, reads, own; then name by name, None first, then in name order."""
    group = ["pair", "reads", "own"].index(step[0])
    places = []
    for name in step[1:]:
        if name is None:
            places.append((0, 0, ""))
        elif name in KINDS:
            places.append((1, KINDS.index(name), ""))
        else:
            places.append((2, 0, name))
    return group, places


def lost(source, target, rows):
    return sorted([step for step in steps(source, rows) if is_lost(target, rows, step)], key=place_in_order)


def is_right(source, target, rows):
    if not any(name in WRITES for name in rows):
        return True
    return not lost(source, target, rows)


def smallest_size(source, target, rows):
    """The number of accesses of the smallest of the forms of point 12, or 0 if the table is right."""
    if is_right(source, target, rows):
        return 0
    gone = lost(source, target, rows)
    pairs = [step[1:] for step in steps(source, rows) if step[0] == "pair"]
    sizes = [6]
    for step in gone:
        names = step[1:]
        if step[0] == "reads":
            sizes.append(3)
        elif step[0] == "own":
            sizes += own_sizes(target, rows, names, pairs)
        else:
            sizes += pair_sizes(target, names, pairs)
    return min(sizes)


def pair_sizes(target, names, pairs):
    a, _, b = names
    if is_read(a) and is_read(b) and not target[3]:
        yield 3
    for p, _, q in pairs:
        if (not is_read(p) or not is_read(b)) and (not is_read(q) or not is_read(a)):
            yield 4
        if is_read(a) and is_read(b) and is_read(p) != is_read(q):
            yield 5


def own_sizes(target, rows, names, pairs):
    w, r, f, e = names
    for p, _, q in pairs:
        if not is_read(p) or not is_read(e):
            yield 5
    for t, g, other in pairs:
        if other == w and is_read(t) and is_read(e) and not target[3]:
            ahead = [name for name in (t, g, w, r) if name is not None]
            whole = ahead + [name for name in (f, e) if name is not None]
            if not connects(target, rows, ahead) and not connects(target, rows, whole):
                yield 5


def needless(source, target, rows):
    found = []
    for name in in_name_order(rows):
        for index, word in enumerate(rows[name]):
            if word not in KINDS:
                less = rows[name][:index] + rows[name][index + 1:]
                if is_right(source, target, {**rows, name: less}):
                    found.append((name, index))
    return found


def price(rows, prices):
    return sum(prices[word] for row in rows.values() for word in row)


def all_sides(fences):
    return [side for many in range(len(fences) + 1) for side in combinations(fences, many)]


def all_rows(name, target):
    """All rows in normal form that the name may have."""
    sides = all_sides(fences_of(target))
    if name not in KINDS:
        return sides
    kinds = READS if name in READS else WRITES
    return [ahead + (kind,) + behind for kind in kinds for ahead in sides for behind in sides]


def cheapest(source, target, prices, names):
    """All right tables of least price, each as a tuple of its (name, row), among all that there are."""
    names = in_name_order(names)
    best, found = None, []
    for rows in product(*[all_rows(name, target) for name in names]):
        table = dict(zip(names, rows))
        cost = price(table, prices)
        if best is not None and cost > best:
            continue
        if is_right(source, target, table):
            if cost != best:
                best, found = cost, []
            found.append(tuple(table.items()))
    return found


def some_book(random, names=(), early=None, coherent=None):
    def share():
        return random.choice([0, 0.1, 0.3, 0.5, 0.7, 0.9, 1])

    def some(part):
        return {pair for pair in EVERY if random.random() < part}

    return (some(share()), {name: some(share()) for name in names},
            random.random() < 0.6 if early is None else early,
            random.random() < 0.5 if coherent is None else coherent)


def some_row(random, name, target, many_fences):
    def side():
        return tuple(word for word in fences_of(target) if random.random() < many_fences)

    if name not in KINDS:
        return side()
    kind = name if random.random() < 0.7 else random.choice(READS if name in READS else WRITES)
    return side() + (kind,) + side()


def some_table(random, kinds=None):
    """A source, a target and rows; often the target keeps nearly what the source keeps."""
    source = some_book(random, random.choice([[], ["a"], ["a", "m"]]))
    target = some_book(random, random.choice([[], ["a"], ["b"]]))
    if random.random() < 0.4:
        less = set(random.sample(EVERY, random.randrange(3)))
        target = (source[0] - less, dict(source[1]), source[2] or random.random() < 0.4,
                  source[3] and random.random() < 0.8)
    names = kinds or random.sample(KINDS, random.choice([2, 3, 3, 4]))
    names = list(names) + [fence for fence in fences_of(source) if random.random() < 0.5]
    many_fences = random.choice([0, 0.1, 0.3, 0.6])
    rows = {name: some_row(random, name, target, many_fences) for name in names}
    return source, target, rows


def some_tables(seed, many, kinds=None):
    random = Random(seed)
    return [some_table(random, kinds) for _ in range(many)]


def fresh_book(kept=(), **more):
    """A book from plain pairs; fences as keyword fences={name: pairs}."""
    fences = {name: Pairs(list(pairs)) for name, pairs in more.pop("fences", {}).items()}
    return Book(Pairs(list(kept)), fences=fences, **more)
