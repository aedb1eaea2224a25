"""Outer things upon outer things."""

from saidandasked.joining import Nodes, need_house, need_outer
from saidandasked.walks import Walk


class Stack:
    """The pairs of nodes of an outer thing and of the one that serves as its inner thing.

    A pair waits if both wait. If the first is an inner node, the other one is at work for its call, and makes a call
    of its own; an answer node has a wait node of the other beside it.
    """

    def __init__(self, outer, other):
        self.top = Nodes(outer)
        self.base = Nodes(other)
        self.base_call = {call[1]: at for at, call in enumerate(other[1][1])}

    def settled(self, at, there):
        """The pair to which two nodes come without a call of the base, the first being no wait node."""
        while self.top.nodes[at][0] == "inner":
            if self.base.is_wait(there):
                there = self.base.nodes[there][1][self.base_call[self.top.nodes[at][1]]]
            if self.base.nodes[there][0] == "inner":
                return at, there
            _, answer, there = self.base.nodes[there]
            at = self.top.next_for(at, answer)
        return at, there

    def goals(self, pair):
        """The list of the pairs behind a pair."""
        at, there = pair
        node = self.top.nodes[at]
        if node[0] == "wait":
            return [self.settled(to, there) for to in node[1]]
        if node[0] == "answer":
            return [(node[2], there)]
        return [self.settled(at, to) for to in self.base.nodes[there][2]]

    def kind(self, pair):
        """The kind of the node that a pair becomes."""
        return self.top.nodes[pair[0]][0]


def stacked(outer, other):
    """An outer thing that does and answers as the first one does upon the other one upon an inner object."""
    need_outer(outer)
    need_outer(other)
    need_house(other, outer[2])
    stack = Stack(outer, other)
    walk = Walk((0, 0))
    goals = []
    while len(goals) < len(walk.found):
        goals.append(stack.goals(walk.found[len(goals)]))
        for there in goals[-1]:
            walk.meet(there, len(goals) - 1, None)
    # The nexts of an inner node must be greater, and so they are node by node of the first thing, then of the other.
    order = [pair for pair in walk.found if stack.kind(pair) == "wait"]
    order = order + sorted([pair for pair in walk.found if stack.kind(pair) == "inner"])
    order = order + [pair for pair in walk.found if stack.kind(pair) == "answer"]
    place = {pair: at for at, pair in enumerate(order)}
    nodes = []
    for pair in order:
        nexts = tuple(place[there] for there in goals[walk.number[pair]])
        nodes.append(node_told(stack, pair, nexts))
    return ("outer", outer[1], other[2], tuple(nodes))


def node_told(stack, pair, nexts):
    """The node that a pair becomes, with these nexts."""
    if stack.kind(pair) == "wait":
        return ("wait", nexts)
    if stack.kind(pair) == "answer":
        return ("answer", stack.top.nodes[pair[0]][1], nexts[0])
    return ("inner", stack.base.nodes[pair[1]][1], nexts)
