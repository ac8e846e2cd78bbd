"""Steps: the orders that a source keeps and that a target has to keep for a table to be right."""

from keptpairs.pairs import KINDS, READS, WRITES


def _is_pair_step(source, first, fence, second):
    if fence is None:
        return source.keeps(first, second)
    # With a pair that is kept anyway the fence adds nothing.
    return not source.keeps(first, second) and source.keeps(first, second, between=[fence])


def pair_steps(table):
    """The pair steps of the table, in the order in which they are told."""
    kinds = [name for name in table if name in KINDS]
    fences = [None] + [name for name in table if name not in KINDS]
    return [("pair", first, fence, second) for first in kinds for fence in fences for second in kinds
            if _is_pair_step(table.source, first, fence, second)]


def _reads_steps(table):
    if not table.source.coherent:
        return []
    reads = [name for name in table if name in READS]
    return [("reads", first, second) for first in reads for second in reads]


def _own_steps(table, pairs):
    if table.source.early:
        return []
    writes = [name for name in table if name in WRITES]
    return [("own", write) + step[1:] for write in writes for step in pairs if step[1] in READS]


def steps_of(table):
    """All steps of the table, in the order in which they are told."""
    pairs = pair_steps(table)
    return pairs + _reads_steps(table) + _own_steps(table, pairs)


def is_granted(table, step):
    """Whether a flag of the target keeps the step, whatever its pairs and fences are."""
    if step[0] == "reads":
        return table.target.coherent
    return step[0] == "own" and not table.target.early


def routes(step):
    """The lists of names over each of which the target may keep the step."""
    names = [name for name in step[1:] if name is not None]
    return [names, names[:2]] if step[0] == "own" else [names]


def is_lost(table, step):
    """Whether the target does not keep a step of the table."""
    return not is_granted(table, step) and not any([table.connects(names) for names in routes(step)])
