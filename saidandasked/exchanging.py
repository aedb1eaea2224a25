"""The search for a right program that is otherwise than a given one in few entries, or a stop tree."""

from saidandasked.graphs import BROKEN
from saidandasked.mending import own_entries
from saidandasked.walks import Walk


class Exchange:
    """A draft: some entries of a program are filled, of which so many at most may be otherwise than in it."""

    def __init__(self, graph, program, limit):
        self.graph = graph
        self.house = program[1]
        self.limit = limit
        self.own = own_entries(graph, program)
        # The filled entries, by (state, call), with the pairs (answer's index, state).
        self.entries = {}
        self.others = 0

    def choices(self, state, call):
        """The pairs with which an entry can be filled."""
        if self.others == self.limit:
            return [self.own[state][call]]
        answers = list(range(len(self.graph.table.answer_names[call])))
        return [(answer, to) for answer in answers for to in range(len(self.own))]

    def write(self, state, call, choice):
        """Fill an entry."""
        self.entries[(state, call)] = choice
        if choice != self.own[state][call]:
            self.others += 1

    def erase(self, state, call):
        """Make an entry empty again."""
        if self.entries[(state, call)] != self.own[state][call]:
            self.others -= 1
        del self.entries[(state, call)]

    def entry(self, state, call):
        """The pair of an entry, the program's own if it is not filled."""
        return self.entries.get((state, call), self.own[state][call])

    def whole(self):
        """The program of the filled entries and, elsewhere, its own."""
        names = self.graph.table.answer_names
        rows = []
        for state, row in enumerate(self.own):
            entries = [self.entry(state, call) for call in range(len(row))]
            rows.append(tuple((names[call][answer], to) for call, (answer, to) in enumerate(entries)))
        return ("program", self.house, tuple(rows))

    def entries_to_unsafe(self):
        """The list of the entries to which a shortest word comes that leads to a stand that is not safe.

        It is None if there is no such word. Behind it, and behind the state and the stand to which it leads, it is all
        the same how the program goes on.
        """
        walk = Walk((0, 0))
        at = 0
        while at < len(walk.found):
            state, stand = walk.found[at]
            if not self.graph.is_held(stand):
                return self.entries_on(walk.way(at)), state, stand
            for call, leads in enumerate(self.graph.moves[stand]):
                answer, to = self.entry(state, call)
                if leads[answer] == BROKEN:
                    return self.entries_on(walk.way(at) + [call]), to, BROKEN
                walk.meet((to, leads[answer]), at, call)
            at += 1
        return None

    def entries_on(self, word):
        """The list of the entries to which the word comes."""
        found = []
        state = 0
        for call in word:
            found.append((state, call))
            state = self.entry(state, call)[1]
        return found

    def breaking_entries(self):
        """The list of the entries to which some word comes that breaks the document, None if the program is right."""
        way = self.entries_to_unsafe()
        if way is None:
            return None
        found, state, stand = way
        while stand != BROKEN:
            call = self.graph.breaking_call(stand)
            found.append((state, call))
            answer, state = self.entry(state, call)
            stand = self.graph.moves[stand][call][answer]
        return found


def exchange(draft):
    """A pair of a right program, or None, and of a stop tree of the draft, or None."""
    found = draft.breaking_entries()
    if found is None:
        return draft.whole(), None
    names = draft.graph.table.call_names
    left = [entry for entry in found if entry not in draft.entries]
    if not left:
        return None, ("breaks", tuple(names[call] for _, call in found))
    state, call = left[0]
    trees = []
    for choice in draft.choices(state, call):
        draft.write(state, call, choice)
        program, tree = exchange(draft)
        draft.erase(state, call)
        if program is not None:
            return program, None
        trees.append(tree)
    return None, ("try", state, names[call], tuple(trees))
