"""Which clauses are enough for what is wanted."""

from saidandasked.clauses import clause_names, is_clause_in
from saidandasked.errors import BadPool, BadSet, TooMany
from saidandasked.graphs import graph_of
from saidandasked.kinds import is_index, rises
from saidandasked.makers import made_with
from saidandasked.meanings import meaning
from saidandasked.narrow import is_narrower, way_apart
from saidandasked.needs import need_document, need_one_house
from saidandasked.quarrels import holds_one, lots_of, part_at

MOST_CLAUSES = 8


def need_pool(document, pool):
    """BadPool for any value that is no pool of the document."""
    if not isinstance(pool, tuple) or len(pool) > 5 or not all(is_clause_in(document[1], part) for part in pool):
        raise BadPool("no tuple of 0 to 5 clauses of the house")
    names = clause_names(document) + [clause[1] for clause in pool]
    if len(set(names)) != len(names):
        raise BadPool("two clauses have one name")


def need_few_clauses(document, pool):
    """TooMany if the document has too many clauses together with the pool."""
    if len(document[2]) + len(pool) > MOST_CLAUSES:
        raise TooMany("too many clauses")


def with_clauses(document, pool, chosen):
    """The document with the clauses of a set of the pool behind its own."""
    need_document(document)
    need_pool(document, pool)
    if not isinstance(chosen, tuple) or not all(is_index(at, len(pool)) for at in chosen) or not rises(chosen):
        raise BadSet("no rising tuple of indexes of the pool")
    found = joined_clauses(document, [pool[at] for at in chosen])
    need_few_clauses(found, ())
    return found


def joined_clauses(document, clauses):
    """The document with these clauses behind its own."""
    return ("document", document[1], document[2] + tuple(clauses))


def with_set(document, pool, chosen):
    """As with_clauses, of what is known to be a set."""
    return joined_clauses(document, [pool[at] for at in chosen])


def least_sets(many, is_good):
    """The tuple of the sets of so many things that are good while no lesser part is; what has a good part is good."""
    found = []
    for part in lots_of(many):
        if not holds_one(part, found) and is_good(part):
            found.append(part)
    return tuple(found)


def greatest_without(many, least):
    """The list of the greatest sets of so many things that have none of these sets within them."""
    return greatest_of([part for part in lots_of(many) if not holds_one(part, least)])


def greatest_of(sets):
    """The list of those sets that are not within a greater one."""
    return [part for part in sets if not any(len(other) > len(part) and holds_one(other, [part]) for other in sets)]


def need_wanted(document, pool, wanted):
    """What is wanted of a document, a pool and a wanted document."""
    need_document(document)
    need_pool(document, pool)
    need_document(wanted)
    need_one_house(document, wanted)
    need_few_clauses(document, pool)


def enough(document, pool, wanted):
    """The tuple of the sets of the pool that are enough while no lesser part of them is."""
    need_wanted(document, pool, wanted)
    return least_sets(len(pool), lambda part: is_narrower(with_set(document, pool, part), wanted))


def silent(document, pool, wanted):
    """The tuple of the pairs of a greatest set that is not enough, and a program that shows it."""
    least = enough(document, pool, wanted)
    found = []
    for part in greatest_without(len(pool), least):
        graph = graph_of(with_set(document, pool, part))
        found.append((part, made_with(graph, [way_apart(graph, graph_of(wanted))])))
    return tuple(found)


def cores(document):
    """The tuple of the least sets of clauses that say as much as all."""
    need_document(document)
    if len(document[2]) > 5:
        raise TooMany("more than 5 clauses")
    return enough(("document", document[1], ()), document[2], document)


def idle(document):
    """The rising tuple of the indexes of clauses without which, one at a time, the document stays alike."""
    need_document(document)
    said = meaning(document)
    every = list(range(len(document[2])))
    return tuple(at for at in every if meaning(part_at(document, [other for other in every if other != at])) == said)
