"""Whether an outer thing does what is wanted upon each right inner program."""

from saidandasked.graphs import BROKEN, graph_of, graph_with
from saidandasked.houses import call_names
from saidandasked.joining import Flat, Nodes, need_joint
from saidandasked.kinds import is_index, is_tuple_of
from saidandasked.makers import made_with
from saidandasked.walks import Walk


class Fitting:
    """The sites of an outer thing: tuples of a node, the call at work, a safe stand of inner, and a stand of wanted.

    At a wait node no call is at work: None. Nothing leads to broken stands of wanted; there is no site behind them.
    """

    def __init__(self, outer, inner, wanted):
        self.thing = Nodes(outer)
        self.calls = call_names(outer[1])
        self.inner = inner
        self.wanted = Flat(wanted)
        self.first = (0, None, 0, 0)

    def leads_on(self, site):
        """The list of the pairs of a step and the site behind it, None where wanted is broken.

        A step is the name of a call, or the pair of an inner call and its answer, or None for the answer to a call.
        """
        at, call, stand, other = site
        node = self.thing.nodes[at]
        if node[0] == "wait":
            return [(name, (to, name, stand, other)) for name, to in zip(self.calls, node[1])]
        if node[0] == "answer":
            return [(None, self.site_behind(node[2], None, stand, self.wanted.behind(other, (call, node[1]))))]
        found = []
        for name, answer, there in self.inner.held_steps(stand):
            if name == node[1]:
                behind = self.wanted.behind(other, (name, answer))
                found.append(((name, answer), self.site_behind(self.thing.next_for(at, answer), call, there, behind)))
        return found

    def site_behind(self, at, call, stand, other):
        """The site, None if the stand of wanted is broken."""
        return None if other == BROKEN else (at, call, stand, other)


class Following:
    """The sites that come from a first one, as long as wanted is not broken, those that fewer calls lead to first."""

    def __init__(self, fitting, first):
        self.fitting = fitting
        self.walk = Walk(first)
        # The indexes of the sites at wait nodes.
        self.waits = [0]
        self.looked = 0

    def way_to_break(self):
        """The steps of a way that breaks wanted, with as few calls as can be, or None."""
        while self.looked < len(self.waits):
            way = self.way_from(self.waits[self.looked])
            if way is not None:
                return way
            self.looked += 1
        return None

    def way_from(self, start):
        """Meet what is behind the site within one call; the steps of a way that breaks wanted, or None."""
        ahead = [start]
        while ahead:
            at = ahead.pop()
            for step, there in self.fitting.leads_on(self.walk.found[at]):
                if there is None:
                    return self.walk.way(at) + [step]
                if there not in self.walk.number:
                    self.walk.meet(there, at, step)
                    after = self.waits if there[1] is None else ahead
                    after.append(self.walk.number[there])
        return None

    def wait_sites(self):
        """The list of the sites at wait nodes, as met."""
        return [self.walk.found[at] for at in self.waits]


def fit(outer, inner, wanted):
    """("fit", table), or ("falls", program, word) with a shortest word."""
    need_joint(outer, inner, wanted)
    graph = graph_of(inner)
    other = graph_of(wanted)
    fitting = Fitting(outer, graph, other)
    following = Following(fitting, fitting.first)
    way = following.way_to_break()
    if way is None:
        sites = following.wait_sites()
        return "fit", tuple((at, graph.shown(stand), other.shown(goal)) for at, _, stand, goal in sites)
    history = tuple(step for step in way if isinstance(step, tuple))
    word = tuple(step for step in way if isinstance(step, str))
    return "falls", made_with(graph, [history]), word


def is_fit_table(outer, inner, wanted, thing):
    """Whether any value is a fit table."""
    need_joint(outer, inner, wanted)
    if not isinstance(thing, tuple) or not all(is_tuple_of(row, 3) for row in thing):
        return False
    graph = graph_with(inner, [row[1] for row in thing])
    other = graph_with(wanted, [row[2] for row in thing])
    fitting = Fitting(outer, graph, other)
    told = {}
    for row in thing:
        if not is_index(row[0], len(outer[3])) or not fitting.thing.is_wait(row[0]):
            return False
        site = (row[0], None, graph.index_seen(row[1]), other.index_seen(row[2]))
        if not graph.is_held(site[2]) or site[3] == BROKEN or site in told:
            return False
        told[site] = True
    return fitting.first in told and all(leads_to_told(fitting, told, site) for site in told)


def leads_to_told(fitting, told, first):
    """Whether each call from a site at a wait node leads to one that is told, and wanted is never broken."""
    following = Following(fitting, first)
    if following.way_from(0) is not None:
        return False
    return all(site in told for site in following.wait_sites())
