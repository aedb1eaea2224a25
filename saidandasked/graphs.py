"""The stands that come, with their ranks, by numbers."""

from saidandasked.tables import Table, is_broken, stand_key
from saidandasked.walks import Walk

# In the place of the index of a stand: the pair leads to a broken one.
BROKEN = -1


class Graph:
    """The unbroken stands that come from some first ones, known by their indexes, as met."""

    def __init__(self, table, firsts):
        self.table = table
        # The steps of the walk are the numbers of pairs.
        self.walk = Walk(firsts[0])
        for stand in firsts:
            self.walk.begin(stand)
        # For each stand, for each call, in order, the stands behind its answers.
        self.moves = moves_of(table, self.walk)
        self.found = self.walk.found
        # The rank of each stand, None of a safe one.
        self.ranks = ranks_of(self.moves)

    def is_held(self, at):
        """Whether at is a safe stand."""
        return at != BROKEN and self.ranks[at] is None

    def is_held_first(self):
        """Whether the first stand is safe."""
        return self.is_held(0)

    def held_index(self, at):
        """The index of a stand if it is safe, otherwise -1."""
        return at if self.is_held(at) else -1

    def held_answers(self, at, call):
        """The indexes of the call's answers behind which the stand is safe."""
        return [answer for answer, to in enumerate(self.moves[at][call]) if self.is_held(to)]

    def rank_after(self, to):
        """The rank of a stand to which a pair leads."""
        return 0 if to == BROKEN else self.ranks[to]

    def breaking_call(self, at):
        """The index of the first call of which all answers lead to lesser ranks."""
        rank = self.ranks[at]
        for call, leads in enumerate(self.moves[at]):
            ranks = [self.rank_after(to) for to in leads]
            if None not in ranks and max(ranks) < rank:
                return call
        return None

    def index_of(self, stand):
        """The index of a stand by numbers; BROKEN if it is broken or does not come."""
        return self.walk.number.get(stand, BROKEN)

    def index_seen(self, thing):
        """The index of the stand that any value tells; BROKEN if it tells none, a broken one, or one not met."""
        stand = self.table.seen(thing)
        return BROKEN if stand is None else self.index_of(stand)

    def shown(self, at):
        """The stand with this index as it is told."""
        return self.table.shown(self.found[at])

    def key(self, at):
        """What the stand with this index is compared by."""
        return stand_key(self.found[at])

    def held_steps(self, at):
        """For each pair that leads from the stand to a safe one, in order, the triple (call, answer, index)."""
        found = []
        for call, leads in enumerate(self.moves[at]):
            for answer, to in enumerate(leads):
                if self.is_held(to):
                    pair = (self.table.call_names[call], self.table.answer_names[call][answer])
                    found.append(pair + (to,))
        return found


def moves_of(table, walk):
    """The moves of all stands, which are met one behind another, by calls, then by answers."""
    moves = []
    at = 0
    while at < len(walk.found):
        leads = []
        behind = table.behind(walk.found[at])
        for letter, stand in enumerate(behind):
            if is_broken(stand):
                leads.append(BROKEN)
            else:
                walk.meet(stand, at, letter)
                leads.append(walk.number[stand])
        moves.append(cut(leads, table.answer_names))
        at += 1
    return moves


def cut(leads, by_call):
    """A list with one item for each pair, cut into one list for each call."""
    found = []
    start = 0
    for names in by_call:
        found.append(leads[start:start + len(names)])
        start += len(names)
    return found


def ranks_of(moves):
    """The rank of each stand; None of those that get none."""
    ranks = [None] * len(moves)
    # How many answers of a call at a stand are not known yet to lead to a rank.
    left = [[len(leads) for leads in calls] for calls in moves]
    behind = arrows_to(moves)
    ranked = []
    for at, call in behind[BROKEN]:
        lower(ranks, left, ranked, (at, call), 1)
    step = 0
    # The stands come in the order of their ranks, so a stand gets its rank from the greatest one behind.
    while step < len(ranked):
        here = ranked[step]
        for arrow in behind[here]:
            lower(ranks, left, ranked, arrow, ranks[here] + 1)
        step += 1
    return ranks


def arrows_to(moves):
    """For each stand, and BROKEN, the list of the pairs (stand, call) of which an answer leads there."""
    found = {at: [] for at in range(BROKEN, len(moves))}
    for at, calls in enumerate(moves):
        for call, leads in enumerate(calls):
            for to in leads:
                found[to].append((at, call))
    return found


def lower(ranks, left, ranked, arrow, rank):
    """One more answer of the arrow's call is known to lead to a lesser rank than this one."""
    at, call = arrow
    left[at][call] -= 1
    if left[at][call] == 0 and ranks[at] is None:
        ranks[at] = rank
        ranked.append(at)


def graph_of(document):
    """The graph of the stands of the document that come from the first one."""
    return graph_with(document, [])


def graph_with(document, things):
    """As graph_of, but that some further values, where they tell unbroken stands, are met behind the first one."""
    table = Table(document)
    stands = [table.seen(thing) for thing in things]
    return Graph(table, [table.first] + [stand for stand in stands if stand is not None and not is_broken(stand)])
