"""Words that are enough to test programs with few states."""

from saidandasked.depths import first_word, need_few
from saidandasked.drafts import breaks
from saidandasked.errors import BadSuite
from saidandasked.graphs import graph_of
from saidandasked.houses import call_names, is_word
from saidandasked.kinds import is_index, is_string_among, is_told, is_tuple_of, rises
from saidandasked.leads import broken_at
from saidandasked.needs import need_document, need_one_house, need_program
from saidandasked.programs import history
from saidandasked.sketches import Sketch


def need_suite(house, suite):
    """BadSuite for any value that is no suite of the house."""
    if not isinstance(suite, tuple) or len(suite) > 40 or not all(is_word(house, word) for word in suite):
        raise BadSuite("no tuple of at most 40 words")
    if not all(1 <= len(word) <= 12 for word in suite):
        raise BadSuite("no words of 1 to 12 calls")
    number = {name: at for at, name in enumerate(call_names(house))}
    if not rises([(len(word), [number[call] for call in word]) for word in suite]):
        raise BadSuite("the words do not ascend")
    starts = {word[:many]: True for word in suite for many in range(len(word))}
    if any(word in starts for word in suite):
        raise BadSuite("a word is the beginning of another one")


def first_break(document, suite, program):
    """None, or the index of the first word that breaks the document, and how many of its calls do."""
    need_document(document)
    need_suite(document[1], suite)
    need_program(program)
    need_one_house(document, program)
    for at, word in enumerate(suite):
        broken = broken_at(document, history(program, word))
        if broken is not None:
            return at, broken[0]
    return None


def need_suites(document, m, suite):
    """What is wanted of a document, a number of states and a suite."""
    need_document(document)
    need_few(m)
    need_suite(document[1], suite)


def is_case_tree(document, m, suite, thing):
    """Whether any value is a tree of cases for the draft without filled entries."""
    need_suites(document, m, suite)
    return Cases(graph_of(document), suite, Sketch(document[1], m)).are_told(thing)


def suffices(document, m, suite):
    """("all", tree), or ("missed", program, word) with a program that passes and is not right."""
    need_suites(document, m, suite)
    cases = Cases(graph_of(document), suite, Sketch(document[1], m))
    tree = cases.tree()
    if tree is not None:
        return "all", tree
    return "missed", cases.breaker, cases.word


class Cases:
    """A draft of programs, with a suite."""

    def __init__(self, graph, suite, sketch):
        self.graph = graph
        self.suite = suite
        self.sketch = sketch
        # A program that is missed, with its first word.
        self.breaker = None
        self.word = None

    def is_broken_by(self, at):
        """Whether the word with this index comes to filled entries alone until its history is not let."""
        return breaks(self.graph, self.sketch.steps_told(self.suite[at]))

    def are_told(self, thing):
        """Whether any value is a tree of cases for the draft."""
        if is_told(thing, "breaks", 2):
            return is_index(thing[1], len(self.suite)) and self.is_broken_by(thing[1])
        if is_told(thing, "right", 1):
            return not self.sketch.open_entries() and first_word(self.graph, self.sketch) is None
        if not is_told(thing, "try", 4) or not is_index(thing[1], self.sketch.named):
            return False
        if not is_string_among(thing[2], self.sketch.call_names):
            return False
        state = thing[1]
        call = self.sketch.call_names.index(thing[2])
        choices = self.sketch.choices(call)
        if self.sketch.entries[state][call] is not None or not is_tuple_of(thing[3], len(choices)):
            return False
        named = self.sketch.named
        for choice, tree in zip(choices, thing[3]):
            self.sketch.write(state, call, choice)
            good = self.are_told(tree)
            self.sketch.erase(state, call, named)
            if not good:
                return False
        return True

    def tree(self):
        """A tree of cases for the draft; None if a program is missed, which is noted."""
        for at in range(len(self.suite)):
            if self.is_broken_by(at):
                return "breaks", at
        entry = self.next_entry()
        if entry is None:
            word = first_word(self.graph, self.sketch)
            if word is None:
                return ("right",)
            self.breaker = self.sketch.whole()
            self.word = tuple(self.graph.table.call_names[call] for call in word)
            return None
        return self.tried(entry[0], entry[1])

    def next_entry(self):
        """An entry that a word of the suite comes to and that is not filled; otherwise any such one; or None."""
        for word in self.suite:
            entry = self.sketch.stop_on(word)
            if entry is not None:
                return entry
        left = self.sketch.open_entries()
        return left[0] if left else None

    def tried(self, state, call):
        """The tree that tries all choices for the entry, or None."""
        named = self.sketch.named
        trees = []
        for choice in self.sketch.choices(call):
            self.sketch.write(state, call, choice)
            tree = self.tree()
            self.sketch.erase(state, call, named)
            if tree is None:
                return None
            trees.append(tree)
        return "try", state, self.sketch.call_names[call], tuple(trees)
