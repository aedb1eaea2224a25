"""The stands that come, and the histories that lead to them."""

from saidandasked.errors import BadStand, NotMet
from saidandasked.graphs import BROKEN, graph_of
from saidandasked.needs import need_document


def stands(document):
    """The tuple of the stands that come, as met."""
    need_document(document)
    graph = graph_of(document)
    return tuple(graph.table.shown(stand) for stand in graph.found)


def history_to(document, stand):
    """The shortest history that leads to the stand, of several the first."""
    need_document(document)
    graph = graph_of(document)
    goal = graph.table.seen(stand)
    if goal is None:
        raise BadStand("no stand by its form")
    at = graph.index_of(goal)
    if at == BROKEN:
        raise NotMet("the stand does not come")
    # Stands are met in the order of their first histories.
    return tuple(graph.table.pairs[letter] for letter in graph.walk.way(at))
