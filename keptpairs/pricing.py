"""Pricing: what tables cost, which fences they can do without, and which right tables are cheapest."""

from keptpairs.errors import InvalidPrice, UnknownName
from keptpairs.judging import require
from keptpairs.pairs import KINDS, READS, WRITES
from keptpairs.programs import is_integer
from keptpairs.steps import is_granted, routes, steps_of
from keptpairs.tables import Table

TOP_PRICE = 1000000


def _is_price(item):
    return is_integer(item) and 1 <= item <= TOP_PRICE


def _check_prices(target, prices):
    for name in KINDS + target.names:
        if name not in prices or not _is_price(prices[name]):
            raise InvalidPrice(name)


def price(table, prices):
    """The sum of the prices of all words in the rows."""
    _check_prices(table.target, prices)
    return sum([prices[word] for name in table for word in table[name]])


def _keepers(table, step):
    """The spots of the fences each of which keeps the step by itself; None if it is kept without a fence."""
    if is_granted(table, step):
        return None
    found = []
    for names in routes(step):
        first, last = table.ends(names)
        if table.target.keeps(first, last):
            return None
        for name, index in table.spots(names):
            if table.target.keeps(first, last, between=[table[name][index]]) and (name, index) not in found:
                found.append((name, index))
    return found


def _demands(table):
    """Lists of spots; the table is right exactly as long as a fence stays at one spot of each list."""
    if not any([name in WRITES for name in table]):
        return []
    kept = [_keepers(table, step) for step in steps_of(table)]
    return [spots for spots in kept if spots is not None]


def needless(table):
    """The (name, index) of each fence without which the table is still right."""
    require(table)
    demands = _demands(table)
    spots = [(name, index) for name in table for index, word in enumerate(table[name]) if word not in KINDS]
    return [spot for spot in spots if [spot] not in demands]


def _kinds_for(name):
    return READS if name in READS else WRITES


def _fullest(source, target, names):
    """For every choice of kinds the table with all fences on all sides."""
    choices = [{}]
    for name in [kind for kind in KINDS if kind in names]:
        choices = [{**choice, name: kind} for choice in choices for kind in _kinds_for(name)]
    found = []
    for choice in choices:
        table = Table(source, target)
        for name in names:
            table[name] = target.names + (choice[name],) + target.names if name in choice else target.names
        found.append(table)
    return found


def _without(table, spots):
    """The table with no other fences than those at the spots."""
    found = Table(table.source, table.target)
    for name in list(table):
        found[name] = [word for index, word in enumerate(table[name]) if word in KINDS or (name, index) in spots]
    return found


def _unmet_demand(demands, taken, barred):
    """The spots that may still meet a demand that is not met yet, as few as there are; None if all are met."""
    fewest = None
    for spots in demands:
        if any([spot in taken for spot in spots]):
            continue
        free = [spot for spot in spots if spot not in barred]
        if fewest is None or len(free) < len(fewest):
            fewest = free
    return fewest


def _cheapest_spots(tables, prices):
    """The (place, spots) for each cheapest choice of fences of each of the tables that keeps it right."""
    demands = [_demands(table) for table in tables]
    waiting = [(place, [], [], price(_without(table, []), prices)) for place, table in enumerate(tables)]
    found = []
    least = None
    while waiting:
        place, taken, barred, cost = waiting.pop()
        if least is not None and cost > least:
            continue
        free = _unmet_demand(demands[place], taken, barred)
        if free is None:
            if cost != least:
                found = []
            found.append((place, taken))
            least = cost
            continue
        # A branch bars the spots of those ahead of it, so no choice is found twice.
        for k, (name, index) in enumerate(free):
            more = prices[tables[place][name][index]]
            waiting.append((place, taken + [(name, index)], barred + free[:k], cost + more))
    return found


def cheapest(source, target, prices, *, names):
    """All right tables with rows for exactly these names whose price is least."""
    for name in names:
        if name not in KINDS and name not in source.names:
            raise UnknownName(name)
    _check_prices(target, prices)
    tables = _fullest(source, target, names)
    return [_without(tables[place], spots) for place, spots in _cheapest_spots(tables, prices)]
