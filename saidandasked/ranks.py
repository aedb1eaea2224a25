"""Ranks of stands, safe stands and sound documents."""

from saidandasked.errors import BadStand, Unsound
from saidandasked.graphs import Graph, graph_of
from saidandasked.needs import need_document
from saidandasked.tables import Table, is_broken


def rank_of(document, stand):
    """The rank of the stand, None of a safe one."""
    need_document(document)
    table = Table(document)
    here = table.seen(stand)
    if here is None:
        raise BadStand("no stand by its form")
    if is_broken(here):
        return 0
    return Graph(table, [here]).ranks[0]


def safe(document):
    """The tuple of those stands that come that are safe, as met."""
    need_document(document)
    graph = graph_of(document)
    return tuple(graph.table.shown(stand) for at, stand in enumerate(graph.found) if graph.is_held(at))


def is_sound(document):
    """Whether the first stand is safe."""
    need_document(document)
    return graph_of(document).is_held_first()


def sound_graph(document):
    """The graph of what must be a document, and sound."""
    need_document(document)
    graph = graph_of(document)
    if not graph.is_held_first():
        raise Unsound("the document is not sound")
    return graph
