"""Papers of laws, carried over to narrower documents."""

from saidandasked.errors import BadPaper, ManyObjects, Unsound
from saidandasked.graphs import graph_of
from saidandasked.narrow import is_narrowing
from saidandasked.needs import need_document, need_one_house, need_rule
from saidandasked.tables import Table, stand_key
from saidandasked.verdicts import is_law_verdict


def carried(one, other, rule, pairs, table):
    """The table over the other document that comes of one over the first document and of a narrowing."""
    need_document(one)
    need_document(other)
    need_rule(rule)
    if rule[2] != 1:
        raise ManyObjects("a law of several objects")
    need_one_house(one, other)
    need_one_house(one, rule)
    if not graph_of(other).is_held_first():
        raise Unsound("the other document is not sound")
    if not is_narrowing(other, one, pairs):
        raise BadPaper("pairs")
    if not is_law_verdict(one, rule, ("true", table)):
        raise BadPaper("table")
    rows_by_stand = {}
    for node, stand, rank in table:
        rows_by_stand.setdefault(stand, []).append((node, rank))
    told = Table(other)
    least = {}
    for stand, source in pairs:
        key = stand_key(told.seen(stand))
        for node, rank in rows_by_stand.get(source, []):
            known = least.get((node, key), (rank, stand))
            least[(node, key)] = (min(rank, known[0]), stand)
    return tuple((node, least[(node, key)][1], least[(node, key)][0]) for node, key in sorted(list(least)))
