"""Claims: a safe stand of a document with unbroken stands of other ones, and what their deals lead to."""

from saidandasked.graphs import BROKEN
from saidandasked.kinds import is_index, is_tuple_of, rises


class Claims:
    """The claims of a document and others: pairs of the index of a stand and of pairs (index, index of a stand)."""

    def __init__(self, graph, others):
        self.graph = graph
        self.others = others
        self.first = (0, tuple((at, 0) for at in range(len(others))))

    def step(self, claim, call, answer, chosen):
        """The claim to which the answer leads, of the chosen indexes alone; its rest is () if it is done."""
        stand, rest = claim
        behind = [(at, self.others[at].moves[here][call][answer]) for at, here in rest if at in chosen]
        return self.graph.moves[stand][call][answer], tuple(pair for pair in behind if pair[1] != BROKEN)

    def dealt(self, claim):
        """The list of the lots of indexes that can be dealt to one call."""
        indexes = tuple(at for at, _ in claim[1])
        if len(self.graph.table.call_names) == 1:
            return [indexes]
        return [lot for lot in parts_of(indexes) if lot]

    def all_steps(self, claim):
        """The list of all pairs of a triple (call, answer, indexes) that can be dealt, and the step by it."""
        found = []
        for call in range(len(self.graph.table.call_names)):
            for answer in self.graph.held_answers(claim[0], call):
                for lot in self.dealt(claim):
                    found.append(((call, answer, lot), self.step(claim, call, answer, lot)))
        return found

    def seen(self, thing):
        """The claim that any value tells, or None."""
        if not is_tuple_of(thing, 2) or not isinstance(thing[1], tuple) or not thing[1]:
            return None
        stand = self.graph.index_seen(thing[0])
        if not self.graph.is_held(stand):
            return None
        rest = [self.pair_seen(pair) for pair in thing[1]]
        if None in rest or not rises([at for at, _ in rest]):
            return None
        return stand, tuple(rest)

    def pair_seen(self, pair):
        """The pair of an index and an unbroken stand that any value tells, or None."""
        if not is_tuple_of(pair, 2) or not is_index(pair[0], len(self.others)):
            return None
        stand = self.others[pair[0]].index_seen(pair[1])
        return None if stand == BROKEN else (pair[0], stand)

    def shown(self, claim):
        """The claim as it is told."""
        stand, rest = claim
        return self.graph.shown(stand), tuple((at, self.others[at].shown(here)) for at, here in rest)


def parts_of(indexes):
    """The list of all tuples of some of the indexes, each in order."""
    found = [()]
    for at in indexes:
        found = found + [part + (at,) for part in found]
    return found


def deal_of(ways, indexes):
    """A deal of the indexes, by triples that the dict ways has for pairs (call, indexes); None if there is none."""
    if not indexes:
        return ()
    for call, lot in list(ways):
        if indexes[0] in lot and all(at in indexes for at in lot):
            found = deal_with(ways, indexes, (call, ways[(call, lot)], lot))
            if found is not None:
                return found
    return None


def deal_with(ways, indexes, triple):
    """As deal_of, with this triple among the others."""
    call, _, lot = triple
    # Nothing more is dealt to the same call.
    others = {key: ways[key] for key in ways if key[0] != call}
    rest = deal_of(others, tuple(at for at in indexes if at not in lot))
    if rest is None:
        return None
    return tuple(sorted(((triple,) + rest)))


class Dealing:
    """The claims that come from the first one, and for each that someone can break altogether, a deal that does."""

    def __init__(self, claims):
        self.claims = claims
        self.found = [claims.first]
        number = {claims.first: 0}
        # For each claim the list of the pairs (index of a claim, triple) by which it is come to.
        sources = [[]]
        # For each claim the answers by (call, indexes) with which all these indexes can be broken.
        self.ways = []
        self.deals = {}
        done = []
        while len(self.ways) < len(self.found):
            at = len(self.ways)
            self.ways.append({})
            steps = claims.all_steps(self.found[at])
            for triple, there in steps:
                if not there[1]:
                    done.append((at, triple))
                    continue
                if there not in number:
                    number[there] = len(self.found)
                    self.found.append(there)
                    sources.append([])
                sources[number[there]].append((at, triple))
        self.break_all(sources, done)

    def break_all(self, sources, done):
        """Find all claims that can be broken, from those steps that are done on."""
        step = 0
        waiting = list(done)
        while step < len(waiting):
            at, triple = waiting[step]
            if at not in self.deals and self.breaks_with(at, triple):
                waiting.extend(sources[at])
            step += 1

    def breaks_with(self, at, triple):
        """Whether the claim can be broken, now that this triple is known to break its indexes."""
        call, answer, lot = triple
        ways = self.ways[at]
        if (call, lot) in ways:
            return False
        ways[(call, lot)] = answer
        deal = deal_with(ways, tuple(index for index, _ in self.found[at][1]), triple)
        if deal is None:
            return False
        self.deals[at] = deal
        return True

    def unbroken(self):
        """The list of the claims that nobody can break altogether, as met."""
        return [claim for at, claim in enumerate(self.found) if at not in self.deals]

    def histories(self):
        """For each of the others the history by which the deals break it."""
        number = {claim: at for at, claim in enumerate(self.found)}
        table = self.claims.graph.table
        found = {}
        ahead = [(self.claims.first, ())]
        while ahead:
            claim, way = ahead.pop()
            for call, answer, lot in self.deals[number[claim]]:
                there = self.claims.step(claim, call, answer, lot)
                way_there = way + ((table.call_names[call], table.answer_names[call][answer]),)
                left = [at for at, _ in there[1]]
                for at in lot:
                    if at not in left:
                        found[at] = way_there
                if left:
                    ahead.append((there, way_there))
        return [found[at] for at in range(len(self.claims.others))]
