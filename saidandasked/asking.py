"""Whether asking calls makes known what is not known yet: how soon, and why not sooner.

What is not known is told by positions. An object tells of them: goals (for each call, for each of its answers, the
position behind, None if the answer cannot come), is_known, is_lost (nothing that is asked makes it known), leaf (the
tree of a known one), seen (the position that any value tells, or None), house.
"""

from saidandasked.graphs import BROKEN, ranks_of
from saidandasked.houses import call_names
from saidandasked.kinds import is_number, is_string_among, is_told, is_tuple_of
from saidandasked.walks import Walk


class Asking:
    """The positions that come from a first one, as many as are needed to tell how soon it becomes known."""

    def __init__(self, told, first):
        self.told_by = told
        self.calls = call_names(told.house)
        self.walk = Walk(first)
        # For each position that was looked at, for each call, the positions behind its answers.
        self.leads = []
        # In how many calls each position can be known at the latest; None if it cannot, or is not looked at yet.
        self.ranks = []
        self.look()

    def look(self):
        """Look at positions, nearer ones first, until the rank of the first one is sure."""
        calls = 0
        judged = 0
        is_sure = False
        while not is_sure:
            end = len(self.walk.found)
            while len(self.leads) < end:
                self.look_behind(len(self.leads))
            calls += 1
            is_sure = end == len(self.walk.found)
            # To judge is dear, so it is done when there is much more to judge, or when it can be the last time.
            if is_sure or end >= 2 * judged or self.is_first_within(calls):
                judged = end
                self.judge()
                is_sure = is_sure or self.is_first_within(calls)

    def is_first_within(self, calls):
        """Whether the first position, as far as it was judged, becomes known within so many calls."""
        return bool(self.ranks) and self.ranks[0] is not None and self.ranks[0] <= calls

    def look_behind(self, at):
        """Meet the positions behind the one with this index."""
        position = self.walk.found[at]
        goals = [] if self.is_end(position) else self.told_by.goals(position)
        self.leads.append(goals)
        for call, positions in enumerate(goals):
            for there in positions:
                if there is not None:
                    self.walk.meet(there, at, call)

    def is_end(self, position):
        """Whether nothing is asked at the position."""
        return self.told_by.is_known(position) or self.told_by.is_lost(position)

    def judge(self):
        """Find the ranks of the positions that were looked at."""
        number = self.walk.number
        known = [self.told_by.is_known(position) for position in self.walk.found]
        moves = []
        for goals in self.leads:
            behind = [[number[there] for there in positions if there is not None] for positions in goals]
            # What is known has the rank 0, as broken stands have it.
            moves.append([[BROKEN if known[to] else to for to in calls] for calls in behind])
        # From those that were not looked at nothing is known to lead on.
        moves.extend([[] for _ in range(len(known) - len(moves))])
        self.ranks = [0 if known[at] else rank for at, rank in enumerate(ranks_of(moves))]

    def rank(self, position):
        """The rank of a position that was met."""
        return self.ranks[self.walk.number[position]]

    def best_call(self, position):
        """The index of the first call behind which all ranks are lesser."""
        rank = self.rank(position)
        for call, positions in enumerate(self.leads[self.walk.number[position]]):
            ranks = [self.rank(there) for there in positions if there is not None]
            if None not in ranks and max(ranks) < rank:
                return call
        return None

    def tree(self):
        """The tree of the first position, which has a rank."""
        first = self.walk.found[0]
        needed = {first: True}
        ahead = [first]
        while ahead:
            position = ahead.pop()
            for there in self.positions_asked(position):
                if there is not None and there not in needed:
                    needed[there] = True
                    ahead.append(there)
        trees = {None: None}
        # Trees are made of those of lesser ranks.
        for _, at in sorted([(self.rank(position), self.walk.number[position]) for position in needed]):
            position = self.walk.found[at]
            if self.told_by.is_known(position):
                trees[position] = self.told_by.leaf(position)
            else:
                parts = tuple(trees[there] for there in self.positions_asked(position))
                trees[position] = ("ask", self.calls[self.best_call(position)], parts)
        return trees[first]

    def positions_asked(self, position):
        """The positions behind the answers of the best call; none behind what is known."""
        if self.told_by.is_known(position):
            return []
        return self.leads[self.walk.number[position]][self.best_call(position)]

    def bars(self, left):
        """Rows that show that so many calls do not make the first position known, whichever they are; None: ever."""
        first = self.walk.found[0]
        rows = {first: left}
        order = [first]
        at = 0
        while at < len(order):
            position = order[at]
            less = None if left is None else rows[position] - 1
            at += 1
            if less == -1:
                continue
            for positions in self.leads[self.walk.number[position]]:
                there = self.barred(positions, less)
                # Rows are met in the order of what is left, so a position has the greatest number first.
                if there not in rows and not self.told_by.is_lost(there):
                    rows[there] = less
                    order.append(there)
        return tuple((position, rows[position]) for position in order)

    def barred(self, positions, left):
        """The first of the positions that so many calls do not make known."""
        for there in positions:
            if there is not None:
                rank = self.rank(there)
                if rank is None or left is not None and rank > left:
                    return there
        return None


def is_tree(told, first, thing):
    """Whether any value is a tree of this position."""
    calls = call_names(told.house)
    ahead = [(first, thing)]
    while ahead:
        position, tree = ahead.pop()
        if is_told(tree, "ask", 3):
            if not is_string_among(tree[1], calls):
                return False
            goals = told.goals(position)[calls.index(tree[1])]
            if not is_tuple_of(tree[2], len(goals)):
                return False
            for there, part in zip(goals, tree[2]):
                if there is not None:
                    ahead.append((there, part))
                elif part is not None:
                    return False
        elif not told.is_known(position) or not is_same_leaf(told.leaf(position), tree):
            return False
    return True


def is_same_leaf(leaf, thing):
    """Whether any value is the pair of a word and a number that this leaf is."""
    return is_told(thing, leaf[0], 2) and is_number(thing[1]) and thing[1] == leaf[1]


def are_bars(told, first, left, thing):
    """Whether any value is rows that show that so many calls do not make the position known; None: ever."""
    rows = rows_seen(told, thing)
    if rows is None or (first, left) not in rows:
        return False
    greatest = {}
    for position, calls in list(rows):
        if calls is not None:
            greatest[position] = max(calls, greatest.get(position, 0))
    for position, calls in list(rows):
        if calls == 0:
            continue
        for positions in told.goals(position):
            if not any(is_barred(told, (rows, greatest), there, calls) for there in positions if there is not None):
                return False
    return True


def rows_seen(told, thing):
    """The dict of the different rows (position, number or None) that any value tells, or None."""
    if not isinstance(thing, tuple):
        return None
    rows = {}
    for row in thing:
        if not is_tuple_of(row, 2) or not is_left(row[1]):
            return None
        position = told.seen(row[0])
        if position is None or (position, row[1]) in rows:
            return None
        rows[(position, row[1])] = True
    return rows


def is_left(thing):
    """Whether any value is None or a number from 0 on."""
    return thing is None or is_number(thing) and thing >= 0


def is_barred(told, rows, position, calls):
    """Whether the position is lost, or has a row that is enough behind one with so many calls."""
    if told.is_lost(position):
        return True
    if calls is None:
        return (position, None) in rows[0]
    return position in rows[1] and rows[1][position] >= calls - 1
