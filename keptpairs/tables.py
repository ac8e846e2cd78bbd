"""Tables: for each kind and fence of one book a row of words of another book."""

from keptpairs.errors import InvalidRow, Mismatch, UnknownName
from keptpairs.pairs import KINDS, READS
from keptpairs.programs import check_program


def _in_name_order(names):
    kinds = [kind for kind in KINDS if kind in names]
    return kinds + sorted([str(name) for name in names if name not in KINDS])


def _fits(name, row, fences):
    """Whether this may be the row of the name, if these are the fences of the target."""
    if not isinstance(row, (list, tuple)):
        return False
    if not all([word in KINDS or word in fences for word in row]):
        return False
    kinds = [word for word in row if word in KINDS]
    if name not in KINDS:
        return len(kinds) == 0
    return len(kinds) == 1 and (kinds[0] in READS) == (name in READS)


def _sides(row):
    """What stands ahead of the kind in a row, the kind in a tuple of its own, and what stands behind it."""
    for at, word in enumerate(row):
        if word in KINDS:
            return row[:at], (word,), row[at + 1:]
    return row, (), ()


def _normal(ahead, kind, behind, fences):
    """The row in normal form; the fences of the target ascend."""
    return tuple([name for name in fences if name in ahead]) + kind + tuple([name for name in fences if name in behind])


def _place_of_kind(row):
    return [word in KINDS for word in row].index(True)


class Table:
    """Rows by name: how the accesses and fences of the source are written in the target."""

    def __init__(self, source, target):
        self.source = source
        self.target = target
        # Always in name order, and never changed but replaced, so that a loop over a table may set rows.
        self._rows = {}

    def __iter__(self):
        return iter(self._rows)

    def __getitem__(self, at):
        if at not in self._rows:
            raise UnknownName(at)
        return self._rows[at]

    def __setitem__(self, at, worth):
        if at not in KINDS and at not in self.source.names:
            raise UnknownName(at)
        if not _fits(at, worth, self.target.names):
            raise InvalidRow(at)
        ahead, kind, behind = _sides(tuple(worth))
        rows = {**self._rows, at: _normal(ahead, kind, behind, self.target.names)}
        self._rows = {name: rows[name] for name in _in_name_order(rows)}

    def __call__(self, program):
        check_program(program)
        return [[word for instruction in thread for word in self._compiled(instruction)] for thread in program]

    def __ior__(self, other):
        if not isinstance(other, Table):
            return NotImplemented
        for name in _in_name_order({**self._rows, **other._rows}):
            if not self._matches(other, name):
                raise Mismatch(name)
        self._rows = {name: self._widened(other, name) for name in self._rows}
        return self

    def connects(self, names):
        """Whether the target keeps the first and the last of the names in order, the rows side by side."""
        first, last = self.ends(names)
        between = [self[name][index] for name, index in self.spots(names)]
        return self.target.keeps(first, last, between=between)

    def then(self, second):
        """A new table from this source to the target of the second table, row by row."""
        joined = Table(self.source, second.target)
        for name in list(self):
            joined[name] = [word for middle in self[name] for word in second[middle]]
        return joined

    def ends(self, names):
        """The kinds in the rows of the first and the last name."""
        first, last = self[names[0]], self[names[-1]]
        return first[_place_of_kind(first)], last[_place_of_kind(last)]

    def spots(self, names):
        """The (name, index) of each fence between these two kinds when the rows stand side by side."""
        side_by_side = [(name, index) for name in names for index in range(len(self[name]))]
        first, last = self[names[0]], self[names[-1]]
        stop = len(side_by_side) - len(last) + _place_of_kind(last)
        inner = side_by_side[_place_of_kind(first) + 1:stop]
        return [(name, index) for name, index in inner if self[name][index] not in KINDS]

    def _compiled(self, instruction):
        return [(word,) + instruction[1:] if word in KINDS else (word,) for word in self[instruction[0]]]

    def _matches(self, other, name):
        """Whether both tables have a row for the name, with the same kind or both without one."""
        if name not in self._rows or name not in other._rows:
            return False
        return _sides(self._rows[name])[1] == _sides(other._rows[name])[1]

    def _widened(self, other, name):
        ahead, kind, behind = _sides(self._rows[name])
        more_ahead, _, more_behind = _sides(other._rows[name])
        return _normal(ahead + more_ahead, kind, behind + more_behind, self.target.names)


def identity(source, target, *, names=None):
    """The table in which each of the names stands for itself; None means all that both books have."""
    shared = KINDS + tuple([name for name in source.names if name in target.names])
    table = Table(source, target)
    for name in list(shared if names is None else names):
        if name not in shared:
            raise UnknownName(name)
        table[name] = (name,)
    return table
