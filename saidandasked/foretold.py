"""What bits tell of a program before all of them are read."""

from saidandasked.bits import decoded
from saidandasked.errors import BadWord
from saidandasked.houses import is_word


class Guess:
    """Where a word comes to in all programs that some first entries leave open, as long as they answer it alike."""

    def __init__(self, writing, choice):
        self.writing = writing
        # The next entry with its choice, if there is one, and the groups that are other ones by it.
        self.choice = choice
        self.groups = {} if choice is None else writing.groups_with(choice)
        # A state that is met, or None; and the group of the stands with which the word comes there.
        self.state = 0
        self.group = self.group_at(0)

    def group_at(self, state):
        """The group of a state."""
        return self.groups.get(state, self.writing.groups[state] if state < len(self.writing.groups) else 0)

    def entry(self, call):
        """The entry of the state for the call, None if it is not written."""
        if self.state is None:
            return None
        entries = self.writing.entries_with(self.choice, self.state)
        return entries[call] if call < len(entries) else None

    def answers_to(self, call):
        """The list of the indexes of the answers that the programs give to the call."""
        entry = self.entry(call)
        if entry is not None:
            return [entry[0]]
        # Whatever comes behind an entry that is not written can be a new state.
        return self.writing.gathering.kept_answers(self.group, call)

    def go_on(self, call, answer):
        """Go on behind the only answer to the call."""
        entry = self.entry(call)
        if entry is not None:
            self.state = entry[1]
            self.group = self.group_at(entry[1])
        else:
            self.group = self.writing.gathering.behind(self.group)[call][answer]
            self.state = None


def guesses(decoding):
    """One guess for each choice of the next entry that the bits leave, or one for all if they leave all."""
    if not decoding.pending:
        return [Guess(decoding.writing, None)]
    return [Guess(decoding.writing, choice) for choice in decoding.choices_left()]


def answers_ahead(decoding, word):
    """The pair of the answers to the word that all programs have in common, and of those that may come next."""
    table = decoding.writing.graph.table
    ways = guesses(decoding)
    found = []
    for name in word:
        call = table.call_names.index(name)
        may = sorted(set([answer for way in ways for answer in way.answers_to(call)]))
        if len(may) > 1:
            return tuple(found), tuple(table.answer_names[call][answer] for answer in may)
        for way in ways:
            way.go_on(call, may[0])
        found.append(table.answer_names[call][may[0]])
    return tuple(found), ()


def foretold(document, bits, word):
    """The pair of the answers to the word that the bits tell, and of those that may come next."""
    decoding = decoded(document, bits)
    if not is_word(document[1], word):
        raise BadWord("no word of the house")
    return answers_ahead(decoding, word)
