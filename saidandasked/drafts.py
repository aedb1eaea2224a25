"""The fewest states of right programs, and refutations of fewer ones."""

from saidandasked.drafting import Draft, drafted
from saidandasked.errors import BadMany, BadMost
from saidandasked.graphs import BROKEN, graph_of
from saidandasked.houses import is_word
from saidandasked.kinds import is_index, is_number_between, is_string_among, is_told, is_tuple_of
from saidandasked.needs import need_document
from saidandasked.normals import normal
from saidandasked.ranks import sound_graph
from saidandasked.sketches import Sketch


def is_refutation(document, m, thing):
    """Whether any value is a refutation of m states for the draft without filled entries."""
    need_document(document)
    if not is_number_between(m, 1, 6):
        raise BadMany("no number from 1 to 6")
    return refutes(graph_of(document), Sketch(document[1], m), thing)


def refutes(graph, sketch, thing):
    """Whether any value is a refutation for the draft."""
    if is_told(thing, "breaks", 2):
        return is_word(sketch.house, thing[1]) and breaks(graph, sketch.steps_on(thing[1]))
    if not is_told(thing, "try", 4) or not is_index(thing[1], sketch.named):
        return False
    if not is_string_among(thing[2], sketch.call_names):
        return False
    state = thing[1]
    call = sketch.call_names.index(thing[2])
    choices = sketch.choices(call)
    if sketch.entries[state][call] is not None or not is_tuple_of(thing[3], len(choices)):
        return False
    named = sketch.named
    for choice, tree in zip(choices, thing[3]):
        sketch.write(state, call, choice)
        good = refutes(graph, sketch, tree)
        sketch.erase(state, call, named)
        if not good:
            return False
    return True


def breaks(graph, steps):
    """Whether the calls and answers, if they are all told, lead to a broken stand."""
    if steps is None:
        return False
    at = 0
    for call, answer in steps:
        at = graph.moves[at][call][answer]
        if at == BROKEN:
            return True
    return False


def fewest(document, most):
    """A right program with the fewest states and why there are not fewer, or why most states are too few."""
    graph = sound_graph(document)
    if not is_number_between(most, 1, 6):
        raise BadMost("no number from 1 to 6")
    refutation = None
    for many in range(1, most + 1):
        program, tree = drafted(Draft(graph, many))
        if program is not None:
            return "program", normal(program), refutation
        refutation = tree
    return "more", refutation
