"""Whether each right program of one document is right by another one."""

from saidandasked.graphs import BROKEN, graph_of, graph_with
from saidandasked.kinds import is_tuple_of
from saidandasked.needs import need_documents
from saidandasked.walks import Walk


def pairs_walk(one, other):
    """The walk through the pairs of stands behind what the first graph holds, and the first way that breaks the other.

    The steps are pairs (call, answer); the way is None if none breaks it. The first graph's first stand is safe.
    """
    letter = one.table.letter
    moves = [[to for leads in calls for to in leads] for calls in other.moves]
    walk = Walk((0, 0))
    at = 0
    while at < len(walk.found):
        here, there = walk.found[at]
        for call, answer, to in one.held_steps(here):
            goal = moves[there][letter[(call, answer)]]
            if goal == BROKEN:
                return walk, tuple(walk.way(at)) + ((call, answer),)
            walk.meet((to, goal), at, (call, answer))
        at += 1
    return walk, None


def way_apart(one, other):
    """The least history that the first graph holds and that breaks the other with its last pair, or None."""
    return pairs_walk(one, other)[1] if one.is_held_first() else None


def is_narrower(one, other):
    """Whether the first document is narrower than the other one."""
    return way_apart(graph_of(one), graph_of(other)) is None


def apart(one, other):
    """None if the first document is narrower, otherwise the least history that shows that it is not."""
    need_documents(one, other)
    return way_apart(graph_of(one), graph_of(other))


def narrowing(one, other):
    """The tuple of the pairs of stands that show that the first document is narrower; None if it is not."""
    need_documents(one, other)
    graphs = graph_of(one), graph_of(other)
    if not graphs[0].is_held_first():
        return ()
    walk, way = pairs_walk(graphs[0], graphs[1])
    if way is not None:
        return None
    return tuple((graphs[0].shown(here), graphs[1].shown(there)) for here, there in walk.found)


def is_narrowing(one, other, thing):
    """Whether any value is a tuple of pairs of stands that shows that the first document is narrower."""
    need_documents(one, other)
    if not isinstance(thing, tuple) or not all(is_tuple_of(pair, 2) for pair in thing):
        return False
    left = graph_with(one, [pair[0] for pair in thing])
    right = graph_with(other, [pair[1] for pair in thing])
    told = {}
    for pair in thing:
        here = (left.index_seen(pair[0]), right.index_seen(pair[1]))
        if not left.is_held(here[0]) or here[1] == BROKEN or here in told:
            return False
        told[here] = True
    if left.is_held_first() and (0, 0) not in told:
        return False
    return all(goes_on_told(left, right, told, here) for here in told)


def goes_on_told(left, right, told, here):
    """Whether all pairs of stands are told to which the first one's safe answers lead."""
    for call, leads in enumerate(left.moves[here[0]]):
        for answer, to in enumerate(leads):
            if left.is_held(to) and (to, right.moves[here[1]][call][answer]) not in told:
                return False
    return True
