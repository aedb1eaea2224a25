"""Clauses and documents."""

from saidandasked.errors import BadHouse
from saidandasked.houses import answer_names, are_names, call_names, is_house
from saidandasked.kinds import is_string_among, is_told, is_tuple_of, rises
from saidandasked.words import is_name


def is_clause(house, thing):
    """Whether any value is a clause of the house."""
    if not is_house(house):
        raise BadHouse("no house")
    return is_clause_in(house, thing)


def is_clause_in(house, thing):
    """As is_clause, in what is known to be a house."""
    if not is_told(thing, "clause", 4) or not is_name(thing[1]) or not are_names(thing[2], 40):
        return False
    if not isinstance(thing[3], tuple):
        return False
    keys = [row_key(house, thing[2], row) for row in thing[3]]
    return None not in keys and rises(keys)


def row_key(house, places, row):
    """The indexes of the row's place and call, by which rows ascend; None for any value that is no row."""
    names = call_names(house)
    if not is_tuple_of(row, 3) or not is_string_among(row[0], places):
        return None
    if not is_string_among(row[1], names):
        return None
    call = names.index(row[1])
    if not are_lets(answer_names(house)[call], places, row[2]):
        return None
    return places.index(row[0]), call


def are_lets(names, places, thing):
    """Whether any value is a tuple of ascending pairs of one of these answers and a place."""
    if not isinstance(thing, tuple):
        return False
    keys = [let_key(names, places, pair) for pair in thing]
    return None not in keys and rises(keys)


def let_key(names, places, pair):
    """The indexes of the pair's answer and place, by which pairs ascend; None for any value that is none."""
    if not is_tuple_of(pair, 2) or not is_string_among(pair[0], names):
        return None
    if not is_string_among(pair[1], places):
        return None
    return names.index(pair[0]), places.index(pair[1])


def is_document(thing):
    """Whether any value is a document."""
    if not is_told(thing, "document", 3) or not is_house(thing[1]):
        return False
    clauses = thing[2]
    if not isinstance(clauses, tuple) or not all(is_clause_in(thing[1], clause) for clause in clauses):
        return False
    return len(set(clause_names(thing))) == len(clauses)


def clause_names(document):
    """The names of the clauses of a document, in order."""
    return [clause[1] for clause in document[2]]
