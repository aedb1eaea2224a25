"""What is known of one right program from what was told of it."""


class Hearsay:
    """The words whose answers are known, as a tree. Its nodes are known by numbers; 0 is the empty word."""

    def __init__(self, graph):
        self.graph = graph
        table = graph.table
        self.call_number = {name: at for at, name in enumerate(table.call_names)}
        # For each node the dict from calls to (answer, node), its stand, and the node and the call ahead of it.
        self.steps = [{}]
        self.stands = [0]
        self.came_by = [None]

    def copy_of(self):
        """One of its own that knows as much."""
        twin = Hearsay(self.graph)
        twin.steps = [{call: told[call] for call in told} for told in self.steps]
        twin.stands = list(self.stands)
        twin.came_by = list(self.came_by)
        return twin

    def word_to(self, node):
        """The word of the node, a tuple of indexes of calls."""
        found = []
        while self.came_by[node] is not None:
            node, call = self.came_by[node]
            found.append(call)
        found.reverse()
        return tuple(found)

    def grow(self, node, call, answer):
        """The node behind the call, whose answer is known to be this one."""
        if call not in self.steps[node]:
            self.steps[node][call] = (answer, len(self.steps))
            self.steps.append({})
            self.stands.append(self.graph.moves[self.stands[node]][call][answer])
            self.came_by.append((node, call))
        return self.steps[node][call][1]

    def only_answer(self, stand, call):
        """The index of the only answer that leads from the stand to a safe one; None if there are more."""
        held = self.graph.held_answers(stand, call)
        return held[0] if len(held) == 1 else None

    def answers_behind(self, node, word):
        """The tuple of the answers to the calls behind the node; None if they are not known.

        They are known as far as they were told, and where the document leaves one answer alone.
        """
        found = []
        stand = self.stands[node]
        for call in word:
            if node is not None and call in self.steps[node]:
                answer, node = self.steps[node][call]
            else:
                answer = self.only_answer(stand, call)
                node = None
            if answer is None:
                return None
            stand = self.graph.moves[stand][call][answer]
            found.append(answer)
        return tuple(found)

    def node_behind(self, node, word):
        """The node behind some calls whose answers are known."""
        for call, answer in zip(word, self.answers_behind(node, word)):
            node = self.grow(node, call, answer)
        return node

    def take(self, word, answers):
        """Note the answers to a word, which are possible."""
        node = 0
        for call, answer in zip(word, answers):
            node = self.grow(node, call, answer)

    def first_impossible(self, word, answers):
        """The index of the first answer that no right program gives that answers as told; None if all are possible."""
        node = 0
        stand = 0
        for at, (call, answer) in enumerate(zip(word, answers)):
            if node is not None and call in self.steps[node]:
                known, node = self.steps[node][call]
                if known != answer:
                    return at
            else:
                node = None
            stand = self.graph.moves[stand][call][answer]
            if not self.graph.is_held(stand):
                return at
        return None

    def first_unlike(self, rows):
        """The first (node, call) that is known to be answered otherwise than by these rows of a program, or None."""
        states = [0] * len(self.steps)
        for node, told in enumerate(self.steps):
            for call, (answer, to) in told.items():
                if rows[states[node]][call][0] != answer:
                    return node, call
                states[to] = rows[states[node]][call][1]
        return None
