"""The one form of what a document says."""

from saidandasked.errors import BadMeaning, Empty, TooMany
from saidandasked.freenames import free_names
from saidandasked.graphs import graph_of
from saidandasked.houses import answer_names, call_names, is_house
from saidandasked.kinds import is_index, is_string_among, is_told, is_tuple_of, rises
from saidandasked.merging import least_moves, merged, met_from
from saidandasked.needs import need_document, need_documents, need_name
from saidandasked.walks import Walk


def is_meaning(thing):
    """Whether any value is a meaning."""
    if not is_told(thing, "meaning", 3) or not is_house(thing[1]) or not isinstance(thing[2], tuple):
        return False
    by_call = answer_names(thing[1])
    rows = thing[2]
    if not all(is_meaning_row(by_call, len(rows), row) for row in rows):
        return False
    return not rows or is_in_order(by_call, rows)


def is_meaning_row(by_call, many, row):
    """Whether any value has for each call one or more pairs (answer, index of a row), as told."""
    if not is_tuple_of(row, len(by_call)):
        return False
    return all(are_pairs(names, many, pairs) for names, pairs in zip(by_call, row))


def are_pairs(names, many, pairs):
    """Whether any value is a tuple of pairs of ascending answers and indexes, not ()."""
    if not isinstance(pairs, tuple) or not pairs:
        return False
    for pair in pairs:
        if not is_tuple_of(pair, 2) or not is_string_among(pair[0], names) or not is_index(pair[1], many):
            return False
    return rises([names.index(pair[0]) for pair in pairs])


def is_in_order(by_call, rows):
    """Whether the rows are met one behind another, and no two are alike."""
    moves = [row_moves(by_call, row) for row in rows]
    if met_from(0, moves) != list(range(len(rows))):
        return False
    return len(set(merged([0] * len(rows), moves))) == len(rows)


def row_moves(by_call, row):
    """For each call and answer the index of the row to which the answer leads, or -1."""
    found = []
    for names, pairs in zip(by_call, row):
        leads = {answer: to for answer, to in pairs}
        found.extend([leads.get(answer, -1) for answer in names])
    return found


def meaning(document):
    """The meaning of the document."""
    need_document(document)
    graph = graph_of(document)
    if not graph.is_held_first():
        return ("meaning", document[1], ())
    # Nothing leads to stands that are not safe, so no row stands for one of them.
    return said_by_moves(document[1], all_held_moves(graph))


def said_by_moves(house, moves):
    """The meaning by which just the histories come that lead from 0 on and never to nowhere."""
    rows = [row_told(house, steps) for steps in least_moves(moves)]
    return ("meaning", house, tuple(rows))


def all_held_moves(graph):
    """For each stand, for each call and answer, the index of the safe stand to which they lead, or -1."""
    return [[graph.held_index(to) for leads in calls for to in leads] for calls in graph.moves]


def row_told(house, steps):
    """The row of a meaning whose answers lead so."""
    found = []
    start = 0
    for names in answer_names(house):
        leads = steps[start:start + len(names)]
        found.append(tuple((answer, to) for answer, to in zip(names, leads) if to >= 0))
        start += len(names)
    return tuple(found)


def document_of(said, name):
    """The document of one clause of this name that has the meaning."""
    if not is_meaning(said):
        raise BadMeaning("no meaning")
    need_name(name)
    if not said[2]:
        raise Empty("no rows")
    if len(said[2]) > 40:
        raise TooMany("more than 40 rows")
    places = free_names(len(said[2]))
    calls = call_names(said[1])
    rows = []
    for place, row in zip(places, said[2]):
        for call, pairs in zip(calls, row):
            rows.append((place, call, tuple((answer, places[to]) for answer, to in pairs)))
    return ("document", said[1], (("clause", name, places, tuple(rows)),))


def alike(document, other):
    """Whether the meanings of both documents are equal."""
    need_documents(document, other)
    return meaning(document) == meaning(other)


def disputed(document, other):
    """None, or the first history that just one of both documents holds, and which one does."""
    need_documents(document, other)
    one = meaning(document)
    two = meaning(other)
    if one == two:
        return None
    if not one[2] or not two[2]:
        return (), (1 if one[2] else 2)
    return first_dispute(document[1], one[2], two[2])


def first_dispute(house, one_rows, two_rows):
    """As disputed, of meanings with rows that are unlike."""
    by_call = answer_names(house)
    pairs = [(call[1], answer) for call in house[1] for answer in call[2]]
    one_moves = [row_moves(by_call, row) for row in one_rows]
    two_moves = [row_moves(by_call, row) for row in two_rows]
    walk = Walk((0, 0))
    at = 0
    while at < len(walk.found):
        here = walk.found[at]
        for pair, one, two in zip(pairs, one_moves[here[0]], two_moves[here[1]]):
            if (one < 0) != (two < 0):
                return tuple(walk.way(at)) + (pair,), (1 if two < 0 else 2)
            if one >= 0:
                walk.meet((one, two), at, pair)
        at += 1
    return None
