"""Whether the stands behind some histories are kept together by one program."""

from saidandasked.errors import BadHistories
from saidandasked.gathering import Gathering, group_of, steps_of
from saidandasked.graphs import BROKEN, graph_of
from saidandasked.houses import is_history
from saidandasked.kinds import is_index, is_list, is_string_among, is_told, is_tuple_of, rises
from saidandasked.leads import stands_on
from saidandasked.needs import need_document
from saidandasked.tables import bits_of, is_broken


def group_behind(document, graph, histories):
    """The group of the stands behind what must be a list of 1 to 8 histories that are let."""
    if not is_list(histories) or not 1 <= len(histories) <= 8:
        raise BadHistories(None)
    found = []
    for at, history in enumerate(histories):
        if not is_history(document[1], history):
            raise BadHistories(at)
        way = stands_on(graph.table, history)
        if any(is_broken(stand) for stand in way):
            raise BadHistories(at)
        found.append(graph.index_of(way[-1]))
    return group_of(found)


def together(document, histories):
    """("kept", a group table) or ("not", a group list)."""
    need_document(document)
    graph = graph_of(document)
    group = group_behind(document, graph, histories)
    gathering = Gathering(steps_of(graph.moves))
    table = graph.table
    if gathering.is_kept(group):
        return "kept", tuple(
            (tuple(bits_of(here)), tuple(names[at] for names, at in zip(table.answer_names, chosen)))
            for here, chosen in gathering.table_from(group)
        )
    return "not", tuple((tuple(bits_of(here)), table.call_names[call]) for here, call in gathering.list_to(group))


def is_together(document, histories, thing):
    """Whether any value is ("kept", a group table) or ("not", a group list) with a row of the group."""
    need_document(document)
    graph = graph_of(document)
    group = group_behind(document, graph, histories)
    gathering = Gathering(steps_of(graph.moves))
    if is_told(thing, "kept", 2):
        return is_group_table(graph, gathering, group, thing[1])
    return is_told(thing, "not", 2) and is_group_list(graph, gathering, group, thing[1])


def group_seen(graph, thing):
    """The group that any value tells, an ascending tuple of one or more indexes of stands, or None."""
    if not isinstance(thing, tuple) or not thing or not all(is_index(at, len(graph.found)) for at in thing):
        return None
    return group_of(thing) if rises(thing) else None


def is_group_table(graph, gathering, group, thing):
    """Whether any value is a group table in which the group has a row."""
    if not isinstance(thing, tuple):
        return False
    told = {}
    for row in thing:
        here = group_seen(graph, row[0]) if is_tuple_of(row, 2) else None
        if here is None or here in told or not are_answers(graph.table.answer_names, row[1]):
            return False
        told[here] = row[1]
    for here in told:
        for names, goals, answer in zip(graph.table.answer_names, gathering.behind(here), told[here]):
            # A broken group is none of those that are told.
            if goals[names.index(answer)] not in told:
                return False
    return group in told


def are_answers(by_call, thing):
    """Whether any value is a tuple of one answer for each call, in order."""
    return is_tuple_of(thing, len(by_call)) and all(
        is_string_among(answer, names) for answer, names in zip(thing, by_call)
    )


def is_group_list(graph, gathering, group, thing):
    """Whether any value is a group list in which the group has a row."""
    if not isinstance(thing, tuple):
        return False
    calls = graph.table.call_names
    earlier = {}
    for row in thing:
        here = group_seen(graph, row[0]) if is_tuple_of(row, 2) else None
        if here is None or here in earlier or not is_string_among(row[1], calls):
            return False
        if not all(goal == BROKEN or goal in earlier for goal in gathering.behind(here)[calls.index(row[1])]):
            return False
        earlier[here] = True
    return group in earlier
