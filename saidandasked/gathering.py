"""Groups of stands, and whether one program keeps them together."""

from saidandasked.graphs import BROKEN
from saidandasked.tables import bits_of


class Gathering:
    """Groups, which are numbers whose bits are the indexes of stands, as far as they are met.

    Each one is supposed to be kept together, by the first answers that do not lead to lost ones, until it is known to
    be lost itself. Nothing that is met later changes what was asked for.
    """

    def __init__(self, steps):
        # For each stand, for each call, for each answer, the group behind it, BROKEN if it is broken.
        self.steps = steps
        self.known_behind = {}
        # For each group, for each call, the index of the answer by which it is supposed to be kept.
        self.chosen = {}
        # For each group the list of the pairs (group, call) whose chosen answers led to it.
        self.sources = {}
        # For each lost group, as found, the index of a call all of whose answers are broken or led to lost ones before.
        self.lost = {}

    def behind(self, group):
        """For each call, for each answer, the group behind it, BROKEN if it is broken."""
        if group not in self.known_behind:
            found = [[0 for _ in goals] for goals in self.steps[0]]
            for stand in bits_of(group):
                found = [[with_group(one, other) for one, other in zip(goals, more)]
                         for goals, more in zip(found, self.steps[stand])]
            self.known_behind[group] = found
        return self.known_behind[group]

    def is_kept(self, group):
        """Whether the group is kept together."""
        new = []
        self.meet(group, new)
        # The pairs (group, call) whose chosen answer leads to a group that was lost meanwhile.
        gone = []
        while new or gone:
            if gone:
                here, call = gone.pop()
                self.choose(here, call, new, gone)
            else:
                here = new.pop()
                for call in range(len(self.chosen[here])):
                    self.choose(here, call, new, gone)
        return group not in self.lost

    def meet(self, group, new):
        """Note a group, among the new ones if it was not met before."""
        if group not in self.chosen:
            self.chosen[group] = [-1] * len(self.steps[0])
            new.append(group)

    def choose(self, group, call, new, gone):
        """Choose the next answer of the call that does not lead to a lost group; without one the group is lost."""
        if group in self.lost:
            return
        goals = self.behind(group)[call]
        at = self.chosen[group][call] + 1
        while at < len(goals) and (goals[at] == BROKEN or goals[at] in self.lost):
            at += 1
        self.chosen[group][call] = at
        if at == len(goals):
            self.lost[group] = call
            gone.extend(self.sources.get(group, []))
        else:
            self.sources.setdefault(goals[at], []).append((group, call))
            self.meet(goals[at], new)

    def kept_answers(self, group, call):
        """The indexes of the call's answers behind which the group is kept together."""
        return [answer for answer, goal in enumerate(self.behind(group)[call])
                if goal != BROKEN and self.is_kept(goal)]

    def table_from(self, group):
        """The list of the rows (group, indexes of answers) by which a group is kept together, its own one first."""
        found = [group]
        known = {group: True}
        rows = []
        while len(rows) < len(found):
            here = found[len(rows)]
            rows.append((here, self.chosen[here]))
            for goals, answer in zip(self.behind(here), self.chosen[here]):
                if goals[answer] not in known:
                    known[goals[answer]] = True
                    found.append(goals[answer])
        return rows

    def list_to(self, group):
        """The list of the rows (group, index of a call) by which a group is lost, its own one last."""
        needed = {group: True}
        ahead = [group]
        while ahead:
            here = ahead.pop()
            for goal in self.behind(here)[self.lost[here]]:
                if goal != BROKEN and goal not in needed:
                    needed[goal] = True
                    ahead.append(goal)
        return [(here, call) for here, call in self.lost.items() if here in needed]


def with_group(one, other):
    """The group of the stands of two groups, BROKEN if one of both is."""
    return BROKEN if BROKEN in (one, other) else one | other


def group_of(stands):
    """The group of the stands with these indexes."""
    found = 0
    for stand in stands:
        found |= 1 << stand
    return found


def steps_of(moves):
    """The steps of a gathering by moves: for each stand, for each call, the stands behind its answers, or BROKEN."""
    return [[[to if to == BROKEN else 1 << to for to in goals] for goals in calls] for calls in moves]
