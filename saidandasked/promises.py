"""Clauses as promises: which of them laws ask, and what the laws let by."""

from saidandasked.barring import clause_by_law
from saidandasked.chains import is_single
from saidandasked.errors import BadGroup, BadIndex, BadLaws, OverAsks, Unsound
from saidandasked.graphs import BROKEN, graph_of
from saidandasked.houses import is_word
from saidandasked.kinds import is_index, is_list, is_tuple_of, rises
from saidandasked.leads import lots_behind
from saidandasked.makers import made_with
from saidandasked.narrow import way_apart
from saidandasked.needs import need_document
from saidandasked.overs import over
from saidandasked.programs import history, is_program
from saidandasked.quarrels import part_at
from saidandasked.rights import verdict
from saidandasked.verdicts import word_over
from saidandasked.walks import Walk


def need_promise(document, at, laws):
    """What is wanted of each: a document, an index of a clause, and laws of one object."""
    need_document(document)
    if not is_index(at, len(document[2])):
        raise BadIndex("no index of a clause")
    if not is_list(laws) or not 1 <= len(laws) <= 6:
        raise BadLaws(None)
    for number, rule in enumerate(laws):
        if not is_single(rule) or rule[1] != document[1]:
            raise BadLaws(number)


def promise_of(document, laws, at):
    """The promise, of a document that must be sound, and of laws that no right program of it fails."""
    graph = graph_of(document)
    if not graph.is_held_first():
        raise Unsound("the document is not sound")
    for number, rule in enumerate(laws):
        if word_over(graph, rule) == "falls":
            raise OverAsks(number)
    return Promise(document, at, laws)


class Promise:
    """A clause of a document, the document without it, and laws."""

    def __init__(self, document, at, laws):
        self.laws = laws
        self.single = part_at(document, [at])
        self.others = part_at(document, [other for other in range(len(document[2])) if other != at])
        # These clauses may have any number of places.
        self.clauses = [clause_by_law(rule) for rule in laws]
        self.clause_graph = graph_of(self.single)

    def joint_graph(self, group):
        """The graph of the other clauses and the clauses of the group's laws, kept together."""
        clauses = self.others[2] + tuple(self.clauses[at] for at in group)
        return graph_of(("document", self.others[1], clauses))

    def is_asked(self, group):
        """Whether the group asks the clause."""
        return way_apart(self.joint_graph(group), self.clause_graph) is None

    def wrong_program(self, group):
        """A wrong program that fails no law of the group, which is silent."""
        graph = self.joint_graph(group)
        return made_with(graph, [way_apart(graph, self.clause_graph)])

    def is_wrong(self, thing):
        """Whether any value is a wrong program."""
        if not is_program(thing) or thing[1] != self.others[1] or verdict(self.others, thing)[0] != "right":
            return False
        return verdict(self.single, thing)[0] == "breaks"

    def fails(self, program, at):
        """Whether the program fails the law with this index."""
        return over(program, self.laws[at])[0] == "falls"


def asks(document, at, laws, group):
    """Whether each wrong program fails a law of the group."""
    need_promise(document, at, laws)
    if not isinstance(group, tuple) or not all(is_index(number, len(laws)) for number in group) or not rises(group):
        raise BadGroup("no ascending tuple of indexes of laws")
    return promise_of(document, laws, at).is_asked(group)


def missed(document, at, laws):
    """None, or a wrong program that fails no law, and the first word on which such a one can break the clause."""
    need_promise(document, at, laws)
    promise = promise_of(document, laws, at)
    graph = promise.joint_graph(tuple(range(len(laws))))
    way = first_breaking_way(graph, promise.clause_graph)
    if way is None:
        return None
    return made_with(graph, [way]), tuple(call for call, _ in way)


def first_breaking_way(graph, other):
    """A history that the graph holds and that breaks the other one with its last pair, on the first such word; or None.

    The first stand of the graph is safe: right programs of the document keep the laws as well. Pairs of stands are met
    group by group, each group with one word, so that words come in order.
    """
    walk = Walk((0, 0))
    groups = [[0]]
    step = 0
    while step < len(groups):
        for call in range(len(graph.table.call_names)):
            new = []
            for at in groups[step]:
                behind = pairs_behind_call(graph, other, walk.found[at], call)
                for there, pair in behind:
                    if there[1] == BROKEN:
                        return tuple(walk.way(at)) + (pair,)
                    if there not in walk.number:
                        new.append(len(walk.found))
                        walk.meet(there, at, pair)
            if new:
                groups.append(new)
        step += 1
    return None


def pairs_behind_call(graph, other, stands, call):
    """The list of the pairs of stands behind safe answers of the call, each with the pair (call, answer)."""
    found = []
    name = graph.table.call_names[call]
    for answer in graph.held_answers(stands[0], call):
        there = (graph.moves[stands[0]][call][answer], other.moves[stands[1]][call][answer])
        found.append((there, (name, graph.table.answer_names[call][answer])))
    return found


def is_missed(document, at, laws, thing):
    """Whether any value is a wrong program that fails no law, and a word behind which the clause is broken."""
    need_promise(document, at, laws)
    promise = promise_of(document, laws, at)
    if not is_tuple_of(thing, 2) or not promise.is_wrong(thing[0]) or not is_word(document[1], thing[1]):
        return False
    if any(promise.fails(thing[0], number) for number in range(len(laws))):
        return False
    return lots_behind(promise.single, history(thing[0], thing[1])) == ((),)
