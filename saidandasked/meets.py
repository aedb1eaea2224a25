"""What two documents say both, and either, and what mixes them."""

from saidandasked.clauses import clause_names
from saidandasked.covers import escape
from saidandasked.errors import SameName, Unsound
from saidandasked.graphs import graph_of
from saidandasked.meanings import all_held_moves, document_of, said_by_moves
from saidandasked.merging import either_moves
from saidandasked.needs import need_documents
from saidandasked.pools import joined_clauses, need_few_clauses
from saidandasked.walks import Walk


def both(one, other):
    """The document with the clauses of one, and then those of the other that one does not have."""
    need_documents(one, other)
    known = clause_names(one)
    new = []
    for clause in other[2]:
        if clause[1] not in known:
            new.append(clause)
        elif clause not in one[2]:
            raise SameName(clause[1])
    found = joined_clauses(one, new)
    need_few_clauses(found, ())
    return found


def either(one, other):
    """The document that holds just the histories that one or the other holds."""
    need_documents(one, other)
    left = graph_of(one)
    right = graph_of(other)
    first = (left.held_index(0), right.held_index(0))
    if first == (-1, -1):
        raise Unsound("neither document is sound")
    moves = either_moves(all_held_moves(left), all_held_moves(right), first)
    return document_of(said_by_moves(one[1], moves), "either")


def mixing(one, other):
    """None, or an escape of what either says, and the two."""
    return escape(either(one, other), (one, other))


def mixing_place(one, other):
    """None, or the least history behind which one call is held by one alone, and another by the other alone."""
    need_documents(one, other)
    left = graph_of(one)
    right = graph_of(other)
    if not left.is_held_first() or not right.is_held_first():
        return None
    held = HeldPairs(left, right)
    names = left.table.call_names
    for at in range(len(held.walk.found)):
        for call, name in enumerate(names):
            for second, other_name in enumerate(names):
                if call != second and held.goes_on_alone(at, call, 0) and held.goes_on_alone(at, second, 1):
                    return tuple(held.walk.way(at)), name, other_name
    return None


class HeldPairs:
    """The pairs of stands behind the histories that two graphs both hold, as met."""

    def __init__(self, left, right):
        self.walk = Walk((0, 0))
        # For each pair, for each call, what its answers lead to, as goal tells it.
        self.leads = []
        self.left = left
        self.right = right
        while len(self.leads) < len(self.walk.found):
            self.look_behind(len(self.leads))
        # For each side the pairs from which some history is held by it alone.
        self.alone = [self.alone_from(side) for side in (0, 1)]

    def look_behind(self, at):
        """Meet what is behind the pair with this index."""
        here, there = self.walk.found[at]
        found = []
        for call, name in enumerate(self.left.table.call_names):
            answers = self.left.table.answer_names[call]
            pairs = list(zip(answers, self.left.moves[here][call], self.right.moves[there][call]))
            found.append([self.goal(at, (name, answer), (one, two)) for answer, one, two in pairs])
        self.leads.append(found)

    def goal(self, at, step, pair):
        """A pair of what the step leads to, an index or None, and the side that alone holds it, or None."""
        one = self.left.is_held(pair[0])
        two = self.right.is_held(pair[1])
        if one and two:
            self.walk.meet(pair, at, step)
            return self.walk.number[pair], None
        if one or two:
            return None, 0 if one else 1
        return None, None

    def alone_from(self, side):
        """The list that tells of each pair whether some history from it is held by this side alone."""
        sources = [[] for at in self.leads]
        found = []
        known = [False] * len(self.leads)
        for at, calls in enumerate(self.leads):
            for to, holder in [goal for goals in calls for goal in goals]:
                if to is not None:
                    sources[to].append(at)
                elif holder == side and not known[at]:
                    known[at] = True
                    found.append(at)
        step = 0
        while step < len(found):
            for source in sources[found[step]]:
                if not known[source]:
                    known[source] = True
                    found.append(source)
            step += 1
        return known

    def goes_on_alone(self, at, call, side):
        """Whether some history that goes on with the call is held by this side alone."""
        for to, holder in self.leads[at][call]:
            if holder == side or to is not None and self.alone[side][to]:
                return True
        return False
