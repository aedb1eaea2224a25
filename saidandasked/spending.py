"""Papers of budgets: that a limit is enough, or that it is not."""

from saidandasked.budgets import need_limited
from saidandasked.graphs import BROKEN, graph_of
from saidandasked.houses import call_names
from saidandasked.kinds import is_index, is_number, is_string_among, is_tuple_of
from saidandasked.papers import unbroken_seen
from saidandasked.paying import Paying, is_within_cost
from saidandasked.tables import Table, is_broken
from saidandasked.walks import Walk


class Triples:
    """The triples (state, stand by numbers, left) of a document and a program."""

    def __init__(self, document, program):
        self.table = Table(document)
        self.state_rows = program[2]

    def first_with(self, limit):
        """The triple of state 0, the first stand and the limit."""
        return 0, self.table.first, limit

    def seen(self, thing):
        """The triple of an unbroken stand that any value tells, or None."""
        if not is_tuple_of(thing, 3) or not is_index(thing[0], len(self.state_rows)):
            return None
        stand = unbroken_seen(self.table, thing[1])
        if stand is None or not is_number(thing[2]) or thing[2] < 0:
            return None
        return thing[0], stand, thing[2]

    def behind(self, triple, call):
        """The list of the triples behind the answers of the call with this index; left may be less than 0."""
        state, stand, left = triple
        own, to = self.state_rows[state][call]
        name = self.table.call_names[call]
        return [(to, self.table.step(stand, name, answer), left if answer == own else left - 1)
                for answer in self.table.answer_names[call]]


def is_within(document, program, limit, thing):
    """Whether any value is a tuple of triples that shows that the limit is enough."""
    need_limited(document, program, limit)
    told = Triples(document, program)
    if not isinstance(thing, tuple):
        return False
    known = {}
    for row in thing:
        triple = told.seen(row)
        if triple is None or triple in known:
            return False
        known[triple] = True
    if told.first_with(limit) not in known:
        return False
    calls = list(range(len(told.table.call_names)))
    return all(any(there in known for there in told.behind(triple, call)) for triple in known for call in calls)


def is_beyond(document, program, limit, thing):
    """Whether any value is a tuple of rows that shows that the limit is not enough."""
    need_limited(document, program, limit)
    told = Triples(document, program)
    if not isinstance(thing, tuple):
        return False
    calls = call_names(document[1])
    earlier = {}
    for row in thing:
        if not is_tuple_of(row, 4) or not is_string_among(row[3], calls):
            return False
        triple = told.seen(row[:3])
        if triple is None or triple in earlier:
            return False
        behind = told.behind(triple, calls.index(row[3]))
        if not all(is_broken(there[1]) or there[2] < 0 or there in earlier for there in behind):
            return False
        earlier[triple] = True
    return told.first_with(limit) in earlier


def budget_paper(document, program, limit):
    """("within", thing) or ("beyond", thing)."""
    need_limited(document, program, limit)
    paying = Paying(graph_of(document), program)
    if is_within_cost(paying.costs[0], limit):
        return "within", within_paper(paying, limit)
    return "beyond", beyond_paper(paying, limit)


def told_triple(paying, at, left):
    """The triple of a pair and what is left there, as it is told."""
    state, stand = paying.walk.found[at]
    return state, paying.graph.shown(stand), left


def within_paper(paying, limit):
    """The triples that come from the first one if from each pair no more is paid than must be."""
    walk = Walk((0, limit))
    at = 0
    while at < len(walk.found):
        here, left = walk.found[at]
        cost = paying.costs[here]
        for call in range(len(paying.leads[here])):
            if paying.own_is_enough(here, call, cost):
                walk.meet((paying.own_lead(here, call), left), at, call)
            else:
                answer = paying.other_answers(here, call, cost - 1)[0]
                walk.meet((paying.leads[here][call][answer], left - 1), at, call)
        at += 1
    return tuple(told_triple(paying, here, left) for here, left in walk.found)


def beyond_paper(paying, limit):
    """The rows that come from the first one if each pair gets the call by which it was found to be lost."""
    walk = Walk((0, limit))
    order = []
    at = 0
    while at < len(walk.found):
        here, left = walk.found[at]
        place, call = paying.lost_as(here, left)
        # What is lost with less is lost earlier, and so is what was found earlier.
        order.append((left, place, here, call))
        own = paying.own_answer(here, call)
        for answer, to in enumerate(paying.leads[here][call]):
            less = left if answer == own else left - 1
            if to != BROKEN and less >= 0:
                walk.meet((to, less), at, call)
        at += 1
    names = paying.graph.table.call_names
    return tuple(told_triple(paying, here, left) + (names[call],) for left, _, here, call in sorted(order))
