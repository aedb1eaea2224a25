"""What must be said of inner programs so that an outer thing does what is wanted."""

from saidandasked.graphs import BROKEN, cut, graph_of, ranks_of
from saidandasked.houses import answer_names, call_names
from saidandasked.joining import Flat, Nodes, joint_house, need_house, need_outer
from saidandasked.meanings import said_by_moves
from saidandasked.merging import moves_from
from saidandasked.needs import need_document
from saidandasked.tables import bits_of

# In the place of sites: wanted is broken at one of them.
BARRED = -1


class Asks:
    """The sites at which an outer thing makes inner calls, whichever calls it gets: (node, call at work, stand).

    Some of these sites are a number whose bits are their indexes.
    """

    def __init__(self, outer, wanted):
        self.thing = Nodes(outer)
        self.calls = call_names(outer[1])
        self.wanted = Flat(wanted)
        self.inner_pairs = [(call[1], answer) for call in outer[2][1] for answer in call[2]]
        self.sites = []
        self.number = {}
        self.known = {}
        self.first = self.asks_from([(to, call, 0) for call, to in zip(self.calls, outer[3][0][1])])

    def asks_from(self, sites):
        """The sites that make inner calls and to which calls lead from these ones without any; or BARRED."""
        found = 0
        ahead = list(sites)
        seen = {site: True for site in sites}
        while ahead:
            site = ahead.pop()
            node = self.thing.nodes[site[0]]
            if node[0] == "inner":
                found |= 1 << self.index_of(site)
                continue
            stand = self.wanted.behind(site[2], (site[1], node[1]))
            if stand == BROKEN:
                return BARRED
            for call, to in zip(self.calls, self.thing.nodes[node[2]][1]):
                if (to, call, stand) not in seen:
                    seen[(to, call, stand)] = True
                    ahead.append((to, call, stand))
        return found

    def index_of(self, site):
        """The index of a site."""
        if site not in self.number:
            self.number[site] = len(self.sites)
            self.sites.append(site)
        return self.number[site]

    def behind_one(self, index):
        """The dict from the pairs (call, answer) that the site can make to the sites behind, or BARRED."""
        if index not in self.known:
            at, call, stand = self.sites[index]
            name = self.thing.nodes[at][1]
            found = {}
            for answer in self.thing.inner_answers[name]:
                there = self.wanted.behind(stand, (name, answer))
                goal = (self.thing.next_for(at, answer), call, there)
                found[(name, answer)] = BARRED if there == BROKEN else self.asks_from([goal])
            self.known[index] = found
        return self.known[index]

    def behind(self, sites):
        """For each pair of the inner house the sites behind it, or BARRED."""
        found = {pair: 0 for pair in self.inner_pairs}
        for index in bits_of(sites):
            goals = self.behind_one(index)
            for pair in goals:
                found[pair] = BARRED if BARRED in (found[pair], goals[pair]) else found[pair] | goals[pair]
        return [found[pair] for pair in self.inner_pairs]


def weakest(outer, wanted):
    """The meaning of the documents by which just those inner programs are right with which wanted is never broken."""
    need_outer(outer)
    need_document(wanted)
    need_house(wanted, joint_house(outer))
    asks = Asks(outer, graph_of(wanted))
    nothing = ("meaning", outer[2], ())
    if asks.first == BARRED:
        return nothing
    moves = moves_from(asks.first, lambda sites: asks.behind(sites), BARRED, None)
    ranks = ranks_of([cut(steps, answer_names(outer[2])) for steps in moves])
    if ranks[0] is not None:
        return nothing
    return said_by_moves(outer[2], [[to if to >= 0 and ranks[to] is None else -1 for to in steps] for steps in moves])
