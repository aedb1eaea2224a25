"""What must be paid for keeping a document as a program that otherwise answers as a given one does."""

from saidandasked.graphs import BROKEN
from saidandasked.mending import own_entries
from saidandasked.walks import Walk


class Paying:
    """The pairs of the given program's state and an unbroken stand, behind whatever answers are given.

    Another answer than the program's own costs 1. A pair is lost with a limit if no more may be paid than that and
    someone can call so that the document is broken all the same.
    """

    def __init__(self, graph, program):
        self.graph = graph
        self.own = own_entries(graph, program)
        self.walk = Walk((0, 0))
        # For each pair, for each call, the pairs behind its answers, BROKEN behind some; and the own answers.
        self.leads = []
        while len(self.leads) < len(self.walk.found):
            self.look_behind(len(self.leads))
        # The least that must be paid from each pair, None if nothing is enough.
        self.costs = [None] * len(self.leads)
        # For the limits from 0 on, the dict from the pairs that are lost, as found, to (place, call). With the last
        # limit no other pairs are lost than with the one ahead of it, nor are with greater ones.
        self.lost = []
        self.judge()

    def look_behind(self, at):
        """Meet the pairs behind the one with this index."""
        state, stand = self.walk.found[at]
        found = []
        for call, leads in enumerate(self.graph.moves[stand]):
            to = self.own[state][call][1]
            goals = []
            for there in leads:
                if there != BROKEN:
                    self.walk.meet((to, there), at, call)
                goals.append(BROKEN if there == BROKEN else self.walk.number[(to, there)])
            found.append(goals)
        self.leads.append(found)

    def own_answer(self, at, call):
        """The index of the program's own answer to the call."""
        return self.own[self.walk.found[at][0]][call][0]

    def own_lead(self, at, call):
        """The pair behind the program's own answer."""
        return self.leads[at][call][self.own_answer(at, call)]

    def cost(self, to):
        """What must be paid from a pair, or behind a broken stand: None if nothing is enough."""
        return None if to == BROKEN else self.costs[to]

    def other_answers(self, at, call, limit):
        """The indexes of the other answers than the program's behind which the limit is enough."""
        own = self.own_answer(at, call)
        return [answer for answer, to in enumerate(self.leads[at][call])
                if answer != own and is_within_cost(self.cost(to), limit)]

    def own_is_enough(self, at, call, limit):
        """Whether the limit is enough behind the program's own answer."""
        return is_within_cost(self.cost(self.own_lead(at, call)), limit)

    def judge(self):
        """Find what must be paid from each pair, limit by limit."""
        is_more = True
        while is_more:
            limit = len(self.lost)
            self.lost.append(self.lost_with(limit))
            new = [at for at, cost in enumerate(self.costs) if cost is None and at not in self.lost[-1]]
            for at in new:
                self.costs[at] = limit
            is_more = bool(new)

    def lost_with(self, limit):
        """The dict of the pairs that are lost with the limit, all lesser ones being judged."""
        lost = {}
        order = []
        # For each pair those that are lost with it, because no other answer will do there.
        sources = {}
        for at, cost in enumerate(self.costs):
            if cost is None:
                for call in range(len(self.leads[at])):
                    if not self.other_answers(at, call, limit - 1):
                        sources.setdefault(self.own_lead(at, call), []).append((at, call))
        ahead = sources.get(BROKEN, [])
        step = 0
        while step <= len(order):
            for at, call in ahead:
                if at not in lost:
                    lost[at] = (len(order), call)
                    order.append(at)
            ahead = sources.get(order[step], []) if step < len(order) else []
            step += 1
        return lost

    def lost_as(self, at, limit):
        """The pair (place, call) of a pair that is lost with the limit: how early it was found, and the call."""
        return self.lost[min(limit, len(self.lost) - 1)][at]


def is_within_cost(cost, limit):
    """Whether the limit is enough where so much must be paid; None is never enough."""
    return cost is not None and cost <= limit
