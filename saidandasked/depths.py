"""How late programs with few states can break a document."""

from saidandasked.errors import BadMany
from saidandasked.graphs import BROKEN, graph_of
from saidandasked.kinds import is_number_between
from saidandasked.needs import need_document
from saidandasked.sketches import Sketch
from saidandasked.walks import Walk


def need_few(m):
    """BadMany for any value that is no number from 1 to 3."""
    if not is_number_between(m, 1, 3):
        raise BadMany("no number from 1 to 3")


def whole_sketches(sketch, look):
    """Fill all open entries of the sketch in each way, and have a look at each one that has none left."""
    left = sketch.open_entries()
    if not left:
        look(sketch)
        return
    state, call = left[0]
    named = sketch.named
    for choice in sketch.choices(call):
        sketch.write(state, call, choice)
        whole_sketches(sketch, look)
        sketch.erase(state, call, named)


def first_word(graph, sketch):
    """The first word on which the program of a whole sketch breaks the document, as a list of calls, or None."""
    walk = Walk((0, 0))
    at = 0
    while at < len(walk.found):
        state, stand = walk.found[at]
        for call, (answer, to) in enumerate(sketch.entries[state]):
            there = graph.moves[stand][call][answer]
            if there == BROKEN:
                return walk.way(at) + [call]
            walk.meet((to, there), at, call)
        at += 1
    return None


class Slowest:
    """The program, of those looked at, that breaks the document latest, with its first such word."""

    def __init__(self, graph):
        self.graph = graph
        self.breaker = None
        self.word = ()

    def look(self, sketch):
        """Have a look at a whole sketch."""
        word = first_word(self.graph, sketch)
        if word is not None and len(word) > len(self.word):
            self.breaker = sketch.whole()
            self.word = tuple(self.graph.table.call_names[call] for call in word)


def slowest_of(document, m):
    """The slowest of all programs that have m states."""
    need_document(document)
    need_few(m)
    found = Slowest(graph_of(document))
    # Programs with fewer states are among these: no word need come to all states.
    whole_sketches(Sketch(document[1], m), lambda sketch: found.look(sketch))
    return found


def depth(document, m):
    """The least number k such that each program that has m states and is fine to k is right."""
    return len(slowest_of(document, m).word)


def slowest(document, m):
    """None if the depth is 0, otherwise a program and the first word on which it breaks the document, so long."""
    found = slowest_of(document, m)
    return None if found.breaker is None else (found.breaker, found.word)
