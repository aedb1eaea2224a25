"""What is said of an outer thing upon right inner programs."""

from saidandasked.houses import answer_names
from saidandasked.joining import Nodes, need_house, need_outer
from saidandasked.meanings import said_by_moves
from saidandasked.merging import moves_from
from saidandasked.needs import need_document
from saidandasked.ranks import sound_graph
from saidandasked.tables import bits_of


class Made:
    """The sites of an outer thing: pairs of a wait node and a safe stand of the inner document.

    Some of these sites are a number whose bits are their indexes.
    """

    def __init__(self, outer, graph):
        self.thing = Nodes(outer)
        self.graph = graph
        self.by_call = answer_names(outer[1])
        self.sites = [(0, 0)]
        self.number = {(0, 0): 0}
        self.known = {}

    def index_of(self, site):
        """The index of a site."""
        if site not in self.number:
            self.number[site] = len(self.sites)
            self.sites.append(site)
        return self.number[site]

    def answered(self, site, call):
        """The dict from the answers that can be given to the call with this index, to the sites behind them."""
        wait, stand = site
        first = (self.thing.nodes[wait][1][call], stand)
        ahead = [first]
        seen = {first: True}
        found = {}
        while ahead:
            at, here = ahead.pop()
            node = self.thing.nodes[at]
            if node[0] == "answer":
                found[node[1]] = found.get(node[1], 0) | 1 << self.index_of((node[2], here))
                continue
            behind = [(self.thing.next_for(at, answer), to) for name, answer, to in self.graph.held_steps(here)
                      if name == node[1]]
            for there in behind:
                if there not in seen:
                    seen[there] = True
                    ahead.append(there)
        return found

    def behind_one(self, index):
        """For each pair (call, answer) of the house the sites behind it; none is 0."""
        if index not in self.known:
            found = []
            for call, names in enumerate(self.by_call):
                goals = self.answered(self.sites[index], call)
                found.extend([goals.get(answer, 0) for answer in names])
            self.known[index] = found
        return self.known[index]

    def behind(self, sites):
        """The same, behind some sites."""
        found = [0 for names in self.by_call for _ in names]
        for index in bits_of(sites):
            found = [one | other for one, other in zip(found, self.behind_one(index))]
        return found


def image(outer, inner):
    """The meaning of the documents that hold a history exactly if a right inner program makes the outer thing do it."""
    need_outer(outer)
    need_document(inner)
    need_house(inner, outer[2])
    made = Made(outer, sound_graph(inner))
    return said_by_moves(outer[1], moves_from(1, lambda sites: made.behind(sites), 0, None))
