"""In how few entries a right program is otherwise than a given one."""

from saidandasked.budgets import need_limited
from saidandasked.drafts import breaks
from saidandasked.errors import BadMost
from saidandasked.exchanging import Exchange, exchange
from saidandasked.graphs import graph_of
from saidandasked.houses import is_word
from saidandasked.kinds import is_index, is_number_between, is_string_among, is_told, is_tuple_of
from saidandasked.needs import need_document, need_one_house, need_program


def is_stop_tree(document, program, limit, thing):
    """Whether any value is a stop tree of the limit for the draft without filled entries."""
    need_limited(document, program, limit)
    return stops(Exchange(graph_of(document), program, limit), thing)


def stops(draft, thing):
    """Whether any value is a stop tree for the draft."""
    calls = draft.graph.table.call_names
    if is_told(thing, "breaks", 2):
        return is_word(draft.house, thing[1]) and is_broken_on(draft, [calls.index(name) for name in thing[1]])
    if not is_told(thing, "try", 4) or not is_index(thing[1], len(draft.own)):
        return False
    if not is_string_among(thing[2], calls):
        return False
    state = thing[1]
    call = calls.index(thing[2])
    choices = draft.choices(state, call)
    if (state, call) in draft.entries or not is_tuple_of(thing[3], len(choices)):
        return False
    for choice, tree in zip(choices, thing[3]):
        draft.write(state, call, choice)
        good = stops(draft, tree)
        draft.erase(state, call)
        if not good:
            return False
    return True


def is_broken_on(draft, word):
    """Whether all entries that the word comes to are filled, and its history is not let."""
    entries = draft.entries_on(word)
    if not all(entry in draft.entries for entry in entries):
        return False
    return breaks(draft.graph, [(call, draft.entry(state, call)[0]) for state, call in entries])


def exchanged(document, program, most):
    """A right program that is otherwise in the fewest entries and why not in fewer, or why most are too few."""
    need_document(document)
    need_program(program)
    if not is_number_between(most, 0, 6):
        raise BadMost("no number from 0 to 6")
    need_one_house(document, program)
    graph = graph_of(document)
    stop = None
    for limit in range(most + 1):
        other, tree = exchange(Exchange(graph, program, limit))
        if other is not None:
            return "program", other, stop
        stop = tree
    return "more", stop
