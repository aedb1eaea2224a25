"""Programs of which only some entries are told."""

from saidandasked.houses import answer_names, call_names


class Sketch:
    """Filled entries of at most so many states. The named states are those below self.named."""

    def __init__(self, house, most):
        self.house = house
        self.most = most
        self.named = 1
        self.call_names = call_names(house)
        self.answer_names = answer_names(house)
        # For each state, for each call, None or the pair (answer's index, state).
        self.entries = [[None] * len(self.call_names) for state in range(most)]

    def choices(self, call):
        """The pairs with which an entry of the call can be filled: at most one state is new."""
        nexts = list(range(min(self.named + 1, self.most)))
        return [(answer, to) for answer in range(len(self.answer_names[call])) for to in nexts]

    def write(self, state, call, choice):
        """Fill an entry."""
        self.entries[state][call] = choice
        self.named = max(self.named, choice[1] + 1)

    def erase(self, state, call, named):
        """Make an entry empty again, so many states being named without it."""
        self.entries[state][call] = None
        self.named = named

    def open_entries(self):
        """The list of the entries of named states that are not filled."""
        calls = list(range(len(self.call_names)))
        return [(state, call) for state in range(self.named) for call in calls
                if self.entries[state][call] is None]

    def followed(self, word):
        """The list of the pairs of the indexes of calls and answers on the word, and the first entry not filled."""
        found = []
        state = 0
        for name in word:
            call = self.call_names.index(name)
            if self.entries[state][call] is None:
                return found, (state, call)
            answer, state = self.entries[state][call]
            found.append((call, answer))
        return found, None

    def steps_on(self, word):
        """The list of the pairs of the indexes of the calls and answers on the word, or None if one is not told."""
        found, stop = self.followed(word)
        return found if stop is None else None

    def steps_told(self, word):
        """As steps_on, but only so far as entries are filled."""
        return self.followed(word)[0]

    def stop_on(self, word):
        """The first entry to which the word comes and that is not filled, or None."""
        return self.followed(word)[1]

    def whole(self):
        """The program of the named states, all of whose entries are filled."""
        rows = []
        for entries in self.entries[:self.named]:
            row = [(names[entry[0]], entry[1]) for names, entry in zip(self.answer_names, entries)]
            rows.append(tuple(row))
        return ("program", self.house, tuple(rows))
