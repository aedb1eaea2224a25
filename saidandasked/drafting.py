"""The search for a right program of so many states, or a refutation."""

from saidandasked.graphs import BROKEN
from saidandasked.sketches import Sketch


class Draft:
    """A sketch with the stands to which words come at each of its states, by filled entries."""

    def __init__(self, graph, most):
        self.graph = graph
        self.sketch = Sketch(graph.table.house, most)
        self.stands = [[] for state in range(most)]
        # For each pair (state, stand) that is met the pair ahead of it and the call between them.
        self.came_by = {}
        # The pairs met, one behind another, so that they can be taken back.
        self.trail = []
        self.meet((0, 0), None)

    def meet(self, pair, source):
        """Note a pair (state, stand) that is new."""
        self.came_by[pair] = source
        self.stands[pair[0]].append(pair[1])
        self.trail.append(pair)

    def fill(self, state, call, choice):
        """Fill an entry and meet all pairs to which it leads; a word that breaks the document, or None."""
        self.sketch.write(state, call, choice)
        ahead = [((state, stand), call) for stand in self.stands[state]]
        at = 0
        while at < len(ahead):
            here, step = ahead[at]
            answer, to = self.sketch.entries[here[0]][step]
            there = (to, self.graph.moves[here[1]][step][answer])
            if there[1] == BROKEN:
                return self.word_to(here, step)
            if there not in self.came_by:
                self.meet(there, (here, step))
                ahead.extend([(there, after) for after in self.filled_calls(to)])
            at += 1
        return None

    def filled_calls(self, state):
        """The indexes of the calls whose entries are filled at the state."""
        return [call for call, entry in enumerate(self.sketch.entries[state]) if entry is not None]

    def take_back(self, state, call, named, many):
        """Undo a fill ahead of which so many states were named and so many pairs met."""
        self.sketch.erase(state, call, named)
        while len(self.trail) > many:
            pair = self.trail.pop()
            self.stands[pair[0]].pop()
            del self.came_by[pair]

    def word_to(self, pair, last):
        """The word that comes to the pair, and then the last call."""
        found = [self.graph.table.call_names[last]]
        while self.came_by[pair] is not None:
            pair, call = self.came_by[pair]
            found.append(self.graph.table.call_names[call])
        found.reverse()
        return tuple(found)

    def lost_entry(self):
        """The entry that breaks a pair whose stand is not safe, the least rank first; None if all are safe."""
        ranks = self.graph.ranks
        lost = [(ranks[stand], state, stand) for state, stand in self.trail if ranks[stand] is not None]
        if not lost:
            return None
        _, state, stand = min(lost)
        # It is not filled, for otherwise it would lead to a lesser rank that is met as well.
        return state, self.graph.breaking_call(stand)

    def narrowest_entry(self):
        """One of the open entries that can be filled in the fewest ways; None if there is none."""
        best = None
        fewest = None
        # Of equal ones a state with many stands is the first: there most words come to their ends.
        order = sorted(self.sketch.open_entries(), key=lambda entry: -len(self.stands[entry[0]]))
        for state, call in order:
            many = self.ways_to_fill(state, call, fewest)
            if fewest is None or many < fewest:
                best = (state, call)
                fewest = many
        return best

    def ways_to_fill(self, state, call, enough):
        """How many choices meet safe stands alone; no more are counted than are enough."""
        leads = self.graph.moves
        many = 0
        for choice in self.sketch.choices(call):
            if many == enough:
                break
            if all(self.graph.is_held(leads[stand][call][choice[0]]) for stand in self.stands[state]):
                if self.stays_safe(state, call, choice):
                    many += 1
        return many

    def stays_safe(self, state, call, choice):
        """Whether an entry, filled so, meets safe stands alone."""
        named = self.sketch.named
        if choice[1] == named:
            # A new state has no entries, so nothing more is met than what was looked at already.
            return True
        many = len(self.trail)
        word = self.fill(state, call, choice)
        safe = word is None and all(self.graph.is_held(stand) for _, stand in self.trail[many:])
        self.take_back(state, call, named, many)
        return safe


def drafted(draft):
    """A pair of a right program, or None, and of a refutation of the draft, or None."""
    entry = draft.lost_entry() or draft.narrowest_entry()
    if entry is None:
        return draft.sketch.whole(), None
    state, call = entry
    named = draft.sketch.named
    many = len(draft.trail)
    trees = []
    for choice in draft.sketch.choices(call):
        word = draft.fill(state, call, choice)
        program, tree = (None, ("breaks", word)) if word is not None else drafted(draft)
        draft.take_back(state, call, named, many)
        if program is not None:
            return program, None
        trees.append(tree)
    return None, ("try", state, draft.graph.table.call_names[call], tuple(trees))
