"""Whoever breaks a program, and a program that holds as long as it can."""

from saidandasked.errors import Sound
from saidandasked.graphs import BROKEN, graph_of
from saidandasked.makers import made_along
from saidandasked.needs import need_document, need_document_and_program


def broken_by(document, program):
    """The history that comes if each stand gets its call by the ranked list, until it is broken."""
    need_document_and_program(document, program)
    graph = graph_of(document)
    if graph.is_held_first():
        raise Sound("the document is sound")
    table = graph.table
    found = []
    state = 0
    at = 0
    while at != BROKEN:
        call = graph.breaking_call(at)
        answer, state = program[2][state][call]
        found.append((table.call_names[call], answer))
        at = graph.moves[at][call][table.answer_names[call].index(answer)]
    return tuple(found)


def holder(document):
    """A program that gives, at each stand, answers that lead to the greatest ranks, and to safe stands first."""
    need_document(document)
    return made_along(graph_of(document), [], longest_held)


def longest_held(graph, stand, call):
    """The index of the first of the answers behind which the stand holds longest."""
    leads = graph.moves[stand][call]
    best = 0
    for answer, to in enumerate(leads):
        if holds_longer(graph.rank_after(to), graph.rank_after(leads[best])):
            best = answer
    return best


def holds_longer(rank, other):
    """Whether a stand of the first rank holds longer than one of the other; None is the rank of a safe one."""
    if rank is None or other is None:
        return other is not None
    return rank > other
