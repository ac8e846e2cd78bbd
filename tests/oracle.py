"""Points 4, 6, 7 and 8 of the document a second time, straight from their words and slow.

A book is described by (kept, fences, early, coherent): a set of pairs, a dict of sets of pairs, two flags.
"""

from itertools import permutations, product
from random import Random

from keptpairs.books import Book
from keptpairs.pairs import KINDS, Pairs

EVERY = list(product(KINDS, KINDS))


def is_read(kind):
    return kind in ("read", "acquire")


def make(description):
    kept, fences, early, coherent = description
    further = {name: Pairs(list(fences[name])) for name in fences}
    return Book(Pairs(list(kept)), fences=further, early=early, coherent=coherent)


def ordered(description, thread, first, second):
    kept, fences, early, coherent = description
    a, b = thread[first], thread[second]
    pair = (a[0], b[0])
    if pair in kept:
        return True
    for (name, *rest) in thread[first + 1:second]:
        if not rest and (name == "full" or pair in fences[name]):
            return True
    if a[1] != b[1]:
        return False
    if not is_read(b[0]):
        return True
    if is_read(a[0]):
        return coherent
    return not early


def named(program):
    """A dict from the names of the accesses to (thread, index)."""
    found = {}
    for place, thread in enumerate(program):
        indices = [index for index, word in enumerate(thread) if len(word) > 1]
        for number, index in enumerate(indices):
            found[place, number] = (place, index)
    return found


def lines(description, program):
    where = named(program)
    demands = []
    for a in where:
        for b in where:
            (s, i), (t, j) = where[a], where[b]
            if s == t and i < j and ordered(description, program[s], i, j):
                demands.append((a, b))
    found = []
    for line in permutations(sorted(where)):
        if all(line.index(a) < line.index(b) for a, b in demands):
            found.append(list(line))
    return found


def run(program, line):
    where = named(program)
    word = {name: program[t][i] for name, (t, i) in where.items()}
    reads = []
    for name in sorted(where):
        kind, cell = word[name][:2]
        if not is_read(kind):
            continue
        writes = [other for other in where if not is_read(word[other][0]) and word[other][1] == cell]
        own = [other for other in writes if other[0] == name[0] and other < name
               and line.index(other) > line.index(name)]
        past = [other for other in writes if line.index(other) < line.index(name)]
        if own:
            reads.append(word[max(own)][2])
        elif past:
            reads.append(word[max(past, key=line.index)][2])
        else:
            reads.append(0)
    contents = []
    for cell in sorted({instruction[1] for instruction in word.values()}):
        writes = [other for other in where if not is_read(word[other][0]) and word[other][1] == cell]
        contents.append(word[max(writes, key=line.index)][2] if writes else 0)
    return tuple(reads), tuple(contents)


def outcomes(description, program):
    found = []
    for line in lines(description, program):
        outcome = run(program, line)
        if outcome not in found:
            found.append(outcome)
    return found


def some_books(seed, many):
    random = Random(seed)
    found = []
    for _ in range(many):
        names = random.sample(["a", "b", "zz"], random.randrange(4))
        fences = {name: set(random.sample(EVERY, random.randrange(9))) for name in names}
        kept = set(random.sample(EVERY, random.randrange(17)))
        found.append((kept, fences, random.random() < 0.5, random.random() < 0.5))
    return found


def some_program(random, names, accesses, fences, cells=2):
    """A program of so many accesses and fences; each write has a value of its own or one that stands elsewhere."""
    threads = random.randrange(1, 5)
    program = [[] for _ in range(threads)]
    words = ["access"] * accesses + ["fence"] * fences
    random.shuffle(words)
    for word in words:
        thread = random.choice(program)
        if word == "fence":
            thread.append((random.choice(names),))
            continue
        kind = random.choice(KINDS)
        cell = random.randrange(cells)
        thread.append((kind, cell) if is_read(kind) else (kind, cell, random.randrange(1, 6)))
    return program
