"""Which clauses cannot be kept together, and what can go."""

from saidandasked.clauses import clause_names
from saidandasked.errors import BadNames
from saidandasked.graphs import graph_of
from saidandasked.kinds import is_list, is_string_among
from saidandasked.needs import need_document


def part_of(document, names):
    """The document with the clauses of these names alone, in its order."""
    need_document(document)
    known = clause_names(document)
    if not is_list(names) or not all(is_string_among(name, known) for name in names):
        raise BadNames("no list of names of clauses")
    if len(set(names)) != len(names):
        raise BadNames("one name twice")
    return part_at(document, [at for at, name in enumerate(known) if name in names])


def part_at(document, indexes):
    """The document with the clauses of these indexes alone."""
    return ("document", document[1], tuple(document[2][at] for at in indexes))


def lots_of(many):
    """All tuples of ascending indexes of so many things, those with fewer first, then index by index."""
    found = [()]
    for at in range(many):
        found = found + [part + (at,) for part in found]
    return sorted(found, key=size_first)


def size_first(part):
    """What lots of things are compared by."""
    return len(part), part


def holds_one(part, others):
    """Whether all indexes of some other lot are in this part."""
    return any(all(at in part for at in other) for other in others)


def quarrel_indexes(document):
    """The list of the quarrels, by the indexes of the clauses."""
    found = []
    if graph_of(document).is_held_first():
        return found
    for part in lots_of(len(document[2])):
        if not holds_one(part, found) and not graph_of(part_at(document, part)).is_held_first():
            found.append(part)
    return found


def quarrels(document):
    """The tuple of the quarrels, each the tuple of the names of its clauses."""
    need_document(document)
    return named_lots(document, quarrel_indexes(document))


def ways_out(document):
    """The tuple of the ways out, each the tuple of the names of its clauses."""
    need_document(document)
    against = quarrel_indexes(document)
    found = []
    for part in lots_of(len(document[2])):
        # A way out has a clause of each quarrel, and nothing more than it must.
        if not holds_one(part, found) and all(any(at in part for at in lot) for lot in against):
            found.append(part)
    return named_lots(document, found)


def named_lots(document, lots):
    """Lots of clauses, told by names in the place of indexes."""
    names = clause_names(document)
    return tuple(tuple(names[at] for at in lot) for lot in lots)
