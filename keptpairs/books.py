"""Books: which accesses of one thread keep their order, and which outcomes follow for a program."""

from keptpairs.errors import InvalidBook, InvalidPair, NotALine, UnknownName
from keptpairs.pairs import KINDS, READS, WRITES, Pairs, is_pair
from keptpairs.programs import accesses_of, check_program, fences_in, first_state, is_fence_name
from keptpairs.programs import next_state, outcome_in, places_in

FULL = "full"


def _fences_with_full(fences):
    """The further fences and "full"; InvalidBook for the first name that no further fence may have."""
    found = {FULL: Pairs.product(KINDS, KINDS)}
    for name in sorted([str(key) for key in fences]):
        if name == FULL or not is_fence_name(name):
            raise InvalidBook(name)
        found[name] = fences[name]
    return found


def _free(ahead, placed):
    """The places, ascending, of the accesses that may follow in a line."""
    return [k for k in range(len(ahead)) if not placed[k] and all([placed[m] for m in ahead[k]])]


class Book:
    """An order of memory: kept pairs, fences that keep pairs, and two flags."""

    def __init__(self, kept, *, fences=None, early=False, coherent=True):
        self._fences = _fences_with_full({} if fences is None else fences)
        self._names = tuple(sorted([str(name) for name in self._fences]))
        self.kept = kept
        self.early = early
        self.coherent = coherent

    @staticmethod
    def sequential():
        """A new book that keeps all pairs."""
        return Book(Pairs.product(KINDS, KINDS))

    @staticmethod
    def buffered():
        """A new book in which reads may overtake writes, and see those of their own thread early."""
        return Book(Pairs.product(KINDS, KINDS) - Pairs.product(WRITES, READS), early=True)

    @staticmethod
    def relaxed():
        """A new book that keeps what stands behind an "acquire" and what stands ahead of a "release"."""
        kept = Pairs.product(("acquire",), KINDS) | Pairs.product(KINDS, ("release",))
        return Book(kept, early=True, coherent=False)

    @property
    def names(self):
        """The fences of the book, ascending."""
        return self._names

    def keeps(self, first, second, *, between=()):
        """Whether the pair is kept, by itself or by one of the fences in between."""
        pair = (first, second)
        if not is_pair(pair):
            raise InvalidPair(pair)
        self._check_names(between)
        return self._keeps_over(pair, between)

    def ordered(self, thread, first, second):
        """Whether the order of the accesses at the indices first < second of the thread is kept."""
        ahead, behind = thread[first], thread[second]
        stand = fences_in(thread[first + 1:second])
        # Each fence needs to be asked only once, however often it stands there.
        between = [name for name in self._names if name in stand]
        if self._keeps_over((ahead[0], behind[0]), between):
            return True
        return ahead[1] == behind[1] and self._keeps_in_cell(ahead[0], behind[0])

    def lines(self, program):
        """All lines of the program, ascending."""
        accesses = self._accesses(program)
        ahead = self._all_ahead(program, accesses)
        waiting = [[]]
        while waiting:
            line = waiting.pop()
            if len(line) == len(accesses):
                yield [accesses[k].name for k in line]
            # The last one that is put there is taken first.
            for k in _free(ahead, [m in line for m in range(len(accesses))])[::-1]:
                waiting.append(line + [k])

    def run(self, program, line):
        """The outcome of a line of the program."""
        accesses = self._accesses(program)
        ahead = self._all_ahead(program, accesses)
        places = places_in(accesses, line)
        if places is None:
            raise NotALine(line)
        state = first_state(accesses)
        for k in places:
            if k not in _free(ahead, state[0]):
                raise NotALine(line)
            state = next_state(accesses, state, k)
        return outcome_in(accesses, state)

    def outcomes(self, program):
        """The outcomes that the book allows, in the order in which the lines first have them."""
        accesses = self._accesses(program)
        ahead = self._all_ahead(program, accesses)
        found = []
        seen = set()
        waiting = [first_state(accesses)]
        while waiting:
            state = waiting.pop()
            # What follows from a state was already found when it was first seen.
            if state in seen:
                continue
            seen.add(state)
            if all(state[0]):
                found.append(outcome_in(accesses, state))
            for k in _free(ahead, state[0])[::-1]:
                waiting.append(next_state(accesses, state, k))
        return found

    def __contains__(self, x):
        program, outcome = x
        return outcome in self.outcomes(program)

    def _check_names(self, fences):
        for name in fences:
            if name not in self._names:
                raise UnknownName(name)

    def _keeps_over(self, pair, between):
        return pair in self.kept or any([pair in self._fences[name] for name in between])

    def _keeps_in_cell(self, first, second):
        if second in WRITES:
            return True
        if first in READS:
            return self.coherent
        return not self.early

    def _accesses(self, program):
        """The accesses of the program, if it is valid and the book has all of its fences."""
        check_program(program)
        for thread in program:
            self._check_names(fences_in(thread))
        return accesses_of(program)

    def _all_ahead(self, program, accesses):
        """For each access the places of the accesses that stand ahead of it in every line."""
        return [[k for k in range(at) if self._puts_ahead(program, accesses[k], accesses[at])]
                for at in range(len(accesses))]

    def _puts_ahead(self, program, first, second):
        if first.thread != second.thread:
            return False
        return self.ordered(program[first.thread], first.index, second.index)
