"""The kinds of accesses, and sets of pairs of them."""

from keptpairs.errors import InvalidPair

READS = ("read", "acquire")
WRITES = ("write", "release")
KINDS = ("read", "acquire", "write", "release")


def is_pair(item):
    """Whether the item is a tuple of two kinds."""
    return isinstance(item, tuple) and len(item) == 2 and item[0] in KINDS and item[1] in KINDS


class Pairs:
    """A set of pairs that never changes. It is iterated by the first kind, then by the second."""

    def __init__(self, pairs=()):
        given = {}
        for pair in pairs:
            if not is_pair(pair):
                raise InvalidPair(pair)
            given[pair] = True
        self._pairs = tuple([(first, second) for first in KINDS for second in KINDS if (first, second) in given])

    @staticmethod
    def product(firsts, seconds):
        """All pairs of a kind of the first and a kind of the second list or tuple."""
        return Pairs([(first, second) for first in firsts for second in seconds])

    def __iter__(self):
        return iter(self._pairs)

    def __len__(self):
        return len(self._pairs)

    def __contains__(self, x):
        return x in self._pairs

    def __eq__(self, other):
        return isinstance(other, Pairs) and self._pairs == other._pairs

    def __le__(self, other):
        if not isinstance(other, Pairs):
            return NotImplemented
        return all([pair in other._pairs for pair in self._pairs])

    def __and__(self, other):
        if not isinstance(other, Pairs):
            return NotImplemented
        return Pairs([pair for pair in self._pairs if pair in other._pairs])

    def __or__(self, other):
        if not isinstance(other, Pairs):
            return NotImplemented
        return Pairs(self._pairs + other._pairs)

    def __sub__(self, other):
        if not isinstance(other, Pairs):
            return NotImplemented
        return Pairs([pair for pair in self._pairs if pair not in other._pairs])
