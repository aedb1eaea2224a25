"""Whether a program is right by a document."""

from saidandasked.kinds import is_index, is_tuple_of
from saidandasked.needs import need_document_and_program
from saidandasked.papers import unbroken_seen
from saidandasked.tables import Table, is_broken, stand_key
from saidandasked.walks import Walk


def verdict(document, program):
    """("right", the pairs of states and stands), or ("breaks", the first such word, the clause it breaks)."""
    need_document_and_program(document, program)
    table = Table(document)
    walk = Walk((0, table.first))
    at = 0
    while at < len(walk.found):
        behind = pairs_behind(table, program, walk.found[at])
        for call, there in zip(table.call_names, behind):
            if is_broken(there[1]):
                return "breaks", tuple(walk.way(at)) + (call,), there[1].index(0)
            walk.meet(there, at, call)
        at += 1
    # Many states have equal stands, and each key is made once.
    keys = {stand: stand_key(stand) for _, stand in walk.found}
    shown = {stand: table.shown(stand) for stand in keys}
    pairs = sorted(walk.found, key=lambda pair: (pair[0], keys[pair[1]]))
    return "right", tuple((state, shown[stand]) for state, stand in pairs)


def pairs_behind(table, program, pair):
    """For each call the pair of the program's state and the stand behind this pair."""
    state, stand = pair
    row = program[2][state]
    return [(to, table.step(stand, call, answer)) for call, (answer, to) in zip(table.call_names, row)]


def is_right_table(document, program, thing):
    """Whether any value is a tuple of pairs of states and stands that shows that the program is right."""
    need_document_and_program(document, program)
    table = Table(document)
    if not isinstance(thing, tuple):
        return False
    told = {}
    for pair in thing:
        if not is_tuple_of(pair, 2) or not is_index(pair[0], len(program[2])):
            return False
        here = (pair[0], unbroken_seen(table, pair[1]))
        if here[1] is None or here in told:
            return False
        told[here] = True
    if (0, table.first) not in told:
        return False
    return all(there in told for pair in told for there in pairs_behind(table, program, pair))
