"""Closed tables and ranked lists."""

from saidandasked.houses import answers_by_call
from saidandasked.kinds import is_string_among, is_tuple_of
from saidandasked.graphs import graph_of
from saidandasked.needs import need_document
from saidandasked.ranks import sound_graph
from saidandasked.tables import Table, is_broken


def unbroken_seen(table, thing):
    """The unbroken stand by numbers that any value tells, or None."""
    here = table.seen(thing)
    return None if here is None or is_broken(here) else here


def is_closed(document, thing):
    """Whether any value is a closed table of the document."""
    need_document(document)
    table = Table(document)
    if not isinstance(thing, tuple):
        return False
    told = {}
    for row in thing:
        here = closed_row_seen(table, row)
        if here is None or here in told:
            return False
        told[here] = row[1]
    for here in told:
        for call, answer in zip(table.call_names, told[here]):
            if table.step(here, call, answer) not in told:
                return False
    return True


def closed_row_seen(table, row):
    """The stand by numbers of any value that is a row of an unbroken stand and its answers, or None."""
    if not is_tuple_of(row, 2) or not is_tuple_of(row[1], len(table.call_names)):
        return None
    if not all(is_string_among(answer, names) for answer, names in zip(row[1], table.answer_names)):
        return None
    return unbroken_seen(table, row[0])


def is_ranked(document, thing):
    """Whether any value is a ranked list of the document."""
    need_document(document)
    table = Table(document)
    if not isinstance(thing, tuple):
        return False
    known = answers_by_call(document[1])
    earlier = {}
    for row in thing:
        if not is_tuple_of(row, 2) or not is_string_among(row[1], known):
            return False
        here = unbroken_seen(table, row[0])
        if here is None or here in earlier:
            return False
        behind = [table.step(here, row[1], answer) for answer in known[row[1]]]
        if not all(is_broken(stand) or stand in earlier for stand in behind):
            return False
        earlier[here] = True
    return True


def closed_table(document):
    """The closed table by the first answers that lead to safe stands."""
    graph = sound_graph(document)
    table = graph.table
    found = [0]
    rows = []
    at = 0
    while at < len(found):
        here = found[at]
        told = []
        for call, leads in enumerate(graph.moves[here]):
            answer = graph.held_answers(here, call)[0]
            told.append(table.answer_names[call][answer])
            if leads[answer] not in found:
                found.append(leads[answer])
        rows.append((table.shown(graph.found[here]), tuple(told)))
        at += 1
    return tuple(rows)


def ranked_list(document):
    """All stands that come and have a rank, lesser ranks first, each with its first call that breaks it."""
    need_document(document)
    graph = graph_of(document)
    ranked = sorted([(rank, at) for at, rank in enumerate(graph.ranks) if rank is not None])
    table = graph.table
    return tuple(
        (table.shown(graph.found[at]), table.call_names[graph.breaking_call(at)]) for _, at in ranked
    )
