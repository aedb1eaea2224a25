"""What finitely many calls can show of programs of any memory."""

from saidandasked.errors import BadLimit
from saidandasked.graphs import BROKEN, graph_of
from saidandasked.houses import is_history
from saidandasked.kinds import is_number_between, is_told
from saidandasked.leads import stands_on
from saidandasked.makers import made_along
from saidandasked.needs import need_document
from saidandasked.opponents import longest_held
from saidandasked.rights import verdict
from saidandasked.tables import is_broken
from saidandasked.walks import Walk


def need_limit(k):
    """BadLimit for any value that is no number from 0 to 60."""
    if not is_number_between(k, 0, 60):
        raise BadLimit("no number from 0 to 60")


def unsure(graph):
    """For each stand whether some history leads from it to a broken one."""
    sources = [[] for at in graph.moves]
    found = []
    known = [False] * len(graph.moves)
    for at, calls in enumerate(graph.moves):
        goals = [to for leads in calls for to in leads]
        if BROKEN in goals:
            known[at] = True
            found.append(at)
        for to in goals:
            if to != BROKEN:
                sources[to].append(at)
    step = 0
    while step < len(found):
        for source in sources[found[step]]:
            if not known[source]:
                known[source] = True
                found.append(source)
        step += 1
    return known


def sure_stands(document):
    """The tuple of the stands that come from which no history leads to a broken one."""
    need_document(document)
    graph = graph_of(document)
    return tuple(graph.shown(at) for at, lost in enumerate(unsure(graph)) if not lost)


def lasts(graph, at, calls):
    """Whether someone can answer so many more calls from the stand, whichever they are."""
    return at != BROKEN and (graph.ranks[at] is None or graph.ranks[at] > calls)


def layers_of(graph, k):
    """For 0 to k calls the dict from the stands to which programs that are fine to k come, to the step to each.

    A step is a pair of the stand one call earlier, and (call, answer); None that of the first stand.
    """
    layers = [{0: None} if lasts(graph, 0, k) else {}]
    for calls in range(k):
        found = {}
        for at in layers[-1]:
            for letter, to in enumerate([to for leads in graph.moves[at] for to in leads]):
                if to not in found and lasts(graph, to, k - calls - 1):
                    found[to] = (at, graph.table.pairs[letter])
        layers.append(found)
    return layers


def fine_stands(document, k):
    """The tuple of k + 1 tuples of the stands to which programs that are fine to k come by so many calls."""
    need_document(document)
    need_limit(k)
    graph = graph_of(document)
    return tuple(tuple(graph.shown(at) for at in sorted(list(layer))) for layer in layers_of(graph, k))


def is_within(graph, known, k):
    """Whether the document of the graph is decided within k, known being its stands that are not sure."""
    return not any(known[at] for at in layers_of(graph, k)[-1])


def is_decided(document, k):
    """Whether every program that is fine to k is right."""
    need_document(document)
    need_limit(k)
    graph = graph_of(document)
    return is_within(graph, unsure(graph), k)


def is_lasso(document, thing):
    """Whether any value is a lasso."""
    need_document(document)
    if not is_told(thing, "never", 4) or not all(is_history(document[1], part) for part in thing[1:]):
        return False
    way, ring, rest = thing[1:]
    if not ring or not rest:
        return False
    graph = graph_of(document)
    held = stands_on(graph.table, way + ring)
    if not all(graph.is_held(graph.index_of(stand)) for stand in held) or held[-1] != held[len(way)]:
        return False
    last = stands_on(graph.table, way + rest)
    return is_broken(last[-1]) and not is_broken(last[-2])


def decided(document):
    """("within", k) with the least k within which the document is decided, otherwise a lasso."""
    need_document(document)
    graph = graph_of(document)
    known = unsure(graph)
    lasso = lasso_of(graph, known) if graph.is_held_first() else None
    if lasso is not None:
        return lasso
    # All that is decided within a number is so within each greater one.
    low = 0
    high = len(graph.found) + max([rank for rank in graph.ranks if rank is not None], default=0)
    while low < high:
        middle = (low + high) // 2
        if is_within(graph, known, middle):
            high = middle
        else:
            low = middle + 1
    return "within", low


def lasso_of(graph, known):
    """A lasso of a sound document, or None."""
    walk = held_walk(graph, 0)
    for number, at in enumerate(walk.found):
        if known[at]:
            ring = ring_from(graph, at)
            if ring is not None:
                return "never", tuple(walk.way(number)), ring, breaking_way(graph, at)
    return None


def held_walk(graph, first):
    """The walk through safe stands from a safe one; the steps are pairs (call, answer)."""
    walk = Walk(first)
    at = 0
    while at < len(walk.found):
        steps = graph.held_steps(walk.found[at])
        for call, answer, to in steps:
            walk.meet(to, at, (call, answer))
        at += 1
    return walk


def ring_from(graph, first):
    """A shortest history of one or more calls from the stand back to it through safe stands, or None."""
    walk = held_walk(graph, first)
    for number, at in enumerate(walk.found):
        for call, answer, to in graph.held_steps(at):
            if to == first:
                return tuple(walk.way(number)) + ((call, answer),)
    return None


def breaking_way(graph, first):
    """A shortest history from the stand to a broken one, to which some history must lead."""
    pairs = graph.table.pairs
    walk = Walk(first)
    at = 0
    while at < len(walk.found):
        goals = [to for leads in graph.moves[walk.found[at]] for to in leads]
        if BROKEN in goals:
            return tuple(walk.way(at)) + (pairs[goals.index(BROKEN)],)
        for letter, to in enumerate(goals):
            walk.meet(to, at, pairs[letter])
        at += 1
    return None


def late_break(document, k):
    """None, or a program that is fine to k and not right, and the first word on which it breaks the document."""
    need_document(document)
    need_limit(k)
    graph = graph_of(document)
    known = unsure(graph)
    layers = layers_of(graph, k)
    lost = [at for at in layers[-1] if known[at]]
    if not lost:
        return None
    way = []
    at = lost[0]
    for layer in reversed(layers[1:]):
        at, pair = layer[at]
        way.append(pair)
    way.reverse()
    pairs = tuple(way) + breaking_way(graph, lost[0])
    steps = [{call: (answer, number + 1)} for number, (call, answer) in enumerate(pairs)] + [{}]
    # Off this way each stand holds as long as it can.
    program = made_along(graph, steps, longest_held)
    return program, verdict(document, program)[1]
