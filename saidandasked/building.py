"""The search for an outer thing that does what is wanted, or for bars."""

from saidandasked.graphs import BROKEN, cut
from saidandasked.houses import answer_names, call_names
from saidandasked.joining import Flat
from saidandasked.walks import Walk


class Building:
    """The pairs of a safe stand of the inner document and an unbroken one of wanted that come by joint histories.

    Those at which a builder can wait are kept as long as nothing is known against them.
    """

    def __init__(self, inner, wanted, house):
        self.inner = inner
        self.wanted = Flat(wanted)
        self.house = house
        self.calls = call_names(house)
        self.by_call = answer_names(house)
        self.inner_calls = inner.table.call_names
        self.walk = Walk((0, 0))
        # For each pair, for each inner call, the list of pairs (answer, pair behind, BROKEN if wanted is broken).
        self.asked = []
        # For each pair, for each call of the house, the pairs behind its answers, BROKEN where wanted is broken.
        self.given = []
        while len(self.asked) < len(self.walk.found):
            self.look_behind(len(self.asked))
        # For each pair that is lost the call and the pairs of its trap; they are lost one behind another.
        self.lost = {}

    def look_behind(self, at):
        """Meet what is behind the pair with this index."""
        stand, other = self.walk.found[at]
        steps = self.inner.held_steps(stand)
        asked = []
        for call in self.inner_calls:
            leads = [(answer, self.met((to, self.wanted.behind(other, (call, answer))), at))
                     for name, answer, to in steps if name == call]
            asked.append(leads)
        self.asked.append(asked)
        goals = []
        for call in self.house[1]:
            for answer in call[2]:
                goals.append(self.met((stand, self.wanted.behind(other, (call[1], answer))), at))
        self.given.append(cut(goals, self.by_call))

    def met(self, pair, at):
        """The index of a pair behind the one with the index at, BROKEN if wanted is broken there."""
        if pair[1] == BROKEN:
            return BROKEN
        self.walk.meet(pair, at, None)
        return self.walk.number[pair]

    def good_answer(self, at, call):
        """The index of the first answer to the call behind which one can wait at a pair that is not lost, or None."""
        for answer, to in enumerate(self.given[at][call]):
            if to != BROKEN and to not in self.lost:
                return answer
        return None

    def plan_for(self, call):
        """The dict from the pairs, at which the call can be answered in the end, to the steps towards that.

        A step is ("answer", index of an answer) or ("inner", index of a call, pairs of an answer and a pair).
        """
        found = {}
        order = []
        for at in range(len(self.asked)):
            answer = self.good_answer(at, call)
            if answer is not None:
                found[at] = ("answer", answer)
                order.append(at)
        # How many pairs behind an inner call are not known yet to lead to an answer; none may break wanted.
        left = {}
        sources = {}
        for at, asked in enumerate(self.asked):
            for number, leads in enumerate(asked):
                goals = list({to: True for _, to in leads})
                if BROKEN not in goals:
                    left[(at, number)] = len(goals)
                    for to in goals:
                        sources.setdefault(to, []).append((at, number))
        step = 0
        while step < len(order):
            for at, number in sources.get(order[step], []):
                left[(at, number)] -= 1
                if left[(at, number)] == 0 and at not in found:
                    found[at] = ("inner", number, self.asked[at][number])
                    order.append(at)
            step += 1
        return found

    def judge(self):
        """Lose pairs until, at those that are left, each call can be answered, or the first pair is lost."""
        is_more = True
        while is_more and 0 not in self.lost:
            new = {}
            for call in range(len(self.calls)):
                known = self.plan_for(call)
                for at in range(len(self.asked)):
                    if at not in known and at not in self.lost and at not in new:
                        new[at] = (self.calls[call], self.trap(at, known))
            self.lost.update(new)
            is_more = bool(new)

    def trap(self, first, known):
        """The list of the pairs from the first one on, with inner answers behind which there is no plan."""
        found = [first]
        at = 0
        while at < len(found):
            for leads in self.asked[found[at]]:
                goals = [to for _, to in leads]
                if BROKEN not in goals:
                    to = [goal for goal in goals if goal not in known][0]
                    if to not in found:
                        found.append(to)
            at += 1
        return found

    def shown(self, at):
        """The pair of stands as it is told."""
        stand, other = self.walk.found[at]
        return self.inner.shown(stand), self.wanted.graph.shown(other)

    def bars(self):
        """The bars of the pairs that are lost."""
        found = []
        for at in self.lost:
            call, trap = self.lost[at]
            found.append(self.shown(at) + (call, tuple(self.shown(pair) for pair in trap)))
        return tuple(found)


class Plan:
    """The nodes of an outer thing, as they are needed: keys of wait nodes, of inner nodes and of answer nodes."""

    def __init__(self, building):
        self.building = building
        self.steps_by_call = [building.plan_for(call) for call in range(len(building.calls))]
        # Keys are ("wait", pair), ("inner", call, pair), ("answer", call, index of an answer, pair to wait at).
        self.walk = Walk(("wait", 0))
        self.nexts = []
        while len(self.nexts) < len(self.walk.found):
            goals = self.goals(self.walk.found[len(self.nexts)])
            self.nexts.append(goals)
            for goal in goals:
                self.walk.meet(goal, len(self.nexts) - 1, None)

    def key(self, call, at):
        """The key of the node with which the call goes on at a pair."""
        step = self.steps_by_call[call][at]
        if step[0] == "answer":
            return ("answer", call, step[1], self.building.given[at][call][step[1]])
        return ("inner", call, at)

    def goals(self, key):
        """The list of the keys of the nexts of a node."""
        if key[0] == "wait":
            return [self.key(call, key[1]) for call in range(len(self.steps_by_call))]
        if key[0] == "answer":
            return [("wait", key[3])]
        _, call, at = key
        _, number, leads = self.steps_by_call[call][at]
        behind = {answer: self.key(call, to) for answer, to in leads}
        # Answers that no right program gives lead anywhere.
        other = self.key(call, leads[0][1])
        return [behind.get(answer, other) for answer in self.building.inner.table.answer_names[number]]

    def ordered(self):
        """The list of the keys: wait nodes, inner nodes, each ahead of its nexts, and answer nodes."""
        found = [key for key in self.walk.found if key[0] == "wait"]
        for call, plan in enumerate(self.steps_by_call):
            # A plan has the pairs in the order in which they were found, those towards which others go first.
            place = {at: number for number, at in enumerate(plan)}
            inner = [key for key in self.walk.found if key[0] == "inner" and key[1] == call]
            found.extend(sorted(inner, key=lambda key: -place[key[2]]))
        return found + [key for key in self.walk.found if key[0] == "answer"]

    def outer(self):
        """The outer thing."""
        order = self.ordered()
        place = {key: at for at, key in enumerate(order)}
        nodes = []
        for key in order:
            nexts = tuple(place[goal] for goal in self.nexts[self.walk.number[key]])
            if key[0] == "wait":
                nodes.append(("wait", nexts))
            elif key[0] == "answer":
                nodes.append(("answer", self.building.by_call[key[1]][key[2]], nexts[0]))
            else:
                nodes.append(("inner", self.building.inner_calls[self.steps_by_call[key[1]][key[2]][1]], nexts))
        return ("outer", self.building.house, self.building.inner.table.house, tuple(nodes))
