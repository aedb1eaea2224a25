"""Which of several laws tell nothing that the others do not tell."""

from saidandasked.barring import clause_by_law
from saidandasked.chains import is_single
from saidandasked.errors import BadLaws
from saidandasked.kinds import is_list
from saidandasked.narrow import is_narrower
from saidandasked.needs import need_one_house
from saidandasked.pools import least_sets


def clauses_of_laws(laws):
    """The clauses of what must be a list of 1 to 6 laws of one object and one house."""
    if not is_list(laws) or not 1 <= len(laws) <= 6:
        raise BadLaws(None)
    for at, rule in enumerate(laws):
        if not is_single(rule):
            raise BadLaws(at)
    for rule in laws:
        need_one_house(laws[0], rule)
    return [clause_by_law(rule) for rule in laws]


def kept_by(house, clauses):
    """The document of these clauses."""
    return ("document", house, tuple(clauses))


def idle_laws(laws):
    """The ascending tuple of the indexes of the laws that programs fail only if they fail another one."""
    clauses = clauses_of_laws(laws)
    house = laws[0][1]
    found = []
    for at, clause in enumerate(clauses):
        if is_narrower(kept_by(house, clauses[:at] + clauses[at + 1:]), kept_by(house, [clause])):
            found.append(at)
    return tuple(found)


def law_cores(laws):
    """The list of the least groups such that what fails any of the laws fails one of the group."""
    clauses = clauses_of_laws(laws)
    house = laws[0][1]
    every = kept_by(house, clauses)
    found = least_sets(len(laws), lambda group: is_narrower(kept_by(house, [clauses[at] for at in group]), every))
    return sorted(found)
