"""How much must be paid for keeping a document with few other answers than a program's."""

from saidandasked.errors import BadLimit, NotEnough, Unsound
from saidandasked.graphs import graph_of
from saidandasked.kinds import is_number_between
from saidandasked.mending import sound_graph_for
from saidandasked.needs import need_document, need_one_house, need_program
from saidandasked.normals import normal
from saidandasked.paying import Paying, is_within_cost
from saidandasked.walks import Walk


def need_limited(document, program, limit):
    """What is wanted of a document, a program and a limit."""
    need_document(document)
    need_program(program)
    if not is_number_between(limit, 0, 999):
        raise BadLimit("no number from 0 to 999")
    need_one_house(document, program)


def budget(document, program):
    """The least that some right program pays at most on every word, or None."""
    return Paying(sound_graph_for(document, program), program).costs[0]


def late_budget(document, program):
    """The same among the right programs that agree with the given one as long as a right program can."""
    graph = sound_graph_for(document, program)
    paying = Paying(graph, program)
    walk = Walk(0)
    most = 0
    at = 0
    while at < len(walk.found):
        here = walk.found[at]
        for call in range(len(graph.table.call_names)):
            to = paying.own_lead(here, call)
            if to >= 0 and graph.is_held(paying.walk.found[to][1]):
                walk.meet(to, at, call)
            else:
                costs = [paying.cost(there) for there in paying.leads[here][call]]
                least = min([cost for cost in costs if cost is not None], default=None)
                if least is None:
                    return None
                most = max(most, least + 1)
        at += 1
    return most


def within(document, program, limit):
    """The normal program that gives the program's answers wherever what is left is enough behind them."""
    need_limited(document, program, limit)
    graph = graph_of(document)
    if not graph.is_held_first():
        raise Unsound("the document is not sound")
    paying = Paying(graph, program)
    if not is_within_cost(paying.costs[0], limit):
        raise NotEnough("the limit is not enough")
    walk = Walk((0, limit))
    rows = []
    while len(rows) < len(walk.found):
        at, left = walk.found[len(rows)]
        row = []
        for call, names in enumerate(graph.table.answer_names):
            if paying.own_is_enough(at, call, left):
                answer = paying.own_answer(at, call)
                there = (paying.leads[at][call][answer], left)
            else:
                answer = paying.other_answers(at, call, left - 1)[0]
                there = (paying.leads[at][call][answer], left - 1)
            walk.meet(there, len(rows), call)
            row.append((names[answer], walk.number[there]))
        rows.append(tuple(row))
    return normal(("program", program[1], tuple(rows)))
