"""Laws of laws: one of several, one behind another, and where they come out."""

from saidandasked.errors import BadLaw, BadLaws, BadStand
from saidandasked.graphs import graph_of, graph_with
from saidandasked.kinds import is_list
from saidandasked.lawforms import is_law
from saidandasked.needs import need_document, need_one_house
from saidandasked.sites import Spread, StandSites


def is_single(thing):
    """Whether any value is a law of one object."""
    return is_law(thing) and thing[2] == 1


def need_single(rule):
    """BadLaw for any value that is no law of one object."""
    if not is_single(rule):
        raise BadLaw("no law of one object")


def one_of(laws):
    """The law that draws one of the laws and goes on as this one."""
    if not is_list(laws) or not 1 <= len(laws) <= 6:
        raise BadLaws(None)
    for at, rule in enumerate(laws):
        if not is_single(rule):
            raise BadLaws(at)
    for rule in laws:
        need_one_house(laws[0], rule)
    starts = []
    nodes = []
    for rule in laws:
        starts.append(1 + len(nodes))
        nodes.extend([shifted(node, starts[-1]) for node in rule[3]])
    return ("law", laws[0][1], 1, (("draw", tuple(starts)),) + tuple(nodes))


def then(one, other):
    """The law that goes on as the other one wherever the first one ends true."""
    need_single(one)
    need_single(other)
    need_one_house(one, other)
    if one[3][0][0] == "true":
        return other
    many = len(one[3])
    ends_true = [node[0] == "true" for node in one[3]]
    goals = [many if true else at for at, true in enumerate(ends_true)]
    nodes = [led_to(node, goals) for node in one[3]] + [shifted(node, many) for node in other[3]]
    return ("law", one[1], 1, tuple(nodes))


def led_to(node, goals):
    """The node of a law of one object, each next of which leads to its goal instead."""
    if node[0] == "true" or node[0] == "false":
        return node
    return node[:-1] + (tuple(goals[to] for to in node[-1]),)


def shifted(node, many):
    """The node of a law of one object, each next being so many greater."""
    if node[0] == "true" or node[0] == "false":
        return node
    return node[:-1] + (tuple(to + many for to in node[-1]),)


def true_from(document, rule):
    """The tuple of the safe stands that come from which no run falls or never ends."""
    need_document(document)
    need_single(rule)
    need_one_house(document, rule)
    graph = graph_of(document)
    held = [at for at in range(len(graph.found)) if graph.is_held(at)]
    if not held:
        return ()
    spread = Spread(StandSites(graph, rule), [(0, at) for at in held])
    good = goes_well(spread)
    return tuple(graph.shown(at) for at in held if good[spread.walk.number[(0, at)]])


def goes_well(spread):
    """For each site whether no run from it falls or never ends."""
    sources = [[] for at in spread.found]
    for at, behind in enumerate(spread.nexts):
        for there in behind:
            sources[there].append(at)
    bad = [at for at, rank in enumerate(spread.ranks) if rank is None or spread.kind(at) == "false"]
    good = [True] * len(spread.found)
    for at in bad:
        good[at] = False
    step = 0
    while step < len(bad):
        for source in sources[bad[step]]:
            if good[source]:
                good[source] = False
                bad.append(source)
        step += 1
    return good


def ends(document, rule, stand):
    """The ascending tuple of the stands with which a run from this stand can come to its end in true."""
    need_document(document)
    need_single(rule)
    graph = graph_with(document, [stand])
    at = graph.index_seen(stand)
    if not graph.is_held(at):
        raise BadStand("no safe stand by its form")
    need_one_house(document, rule)
    spread = Spread(StandSites(graph, rule), [(0, at)])
    found = sorted([(graph.key(site[1]), site[1]) for index, site in enumerate(spread.found)
                    if spread.kind(index) == "true"])
    shown = {}
    for _, here in found:
        shown[here] = graph.shown(here)
    return tuple(list(shown.values()))
