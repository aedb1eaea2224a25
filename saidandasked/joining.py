"""Outer things with what is inside them, and what is wanted of such."""

from saidandasked.errors import BadOuter, OtherHouse, Unsound
from saidandasked.graphs import graph_of
from saidandasked.houses import answers_by_call
from saidandasked.needs import need_document
from saidandasked.outers import is_outer


def need_outer(outer):
    """BadOuter for any value that is no outer thing."""
    if not is_outer(outer):
        raise BadOuter("no outer thing")


def need_house(thing, house):
    """OtherHouse unless a document, a program or an outer thing is one of this house."""
    if thing[1] != house:
        raise OtherHouse("unlike houses")


def joint_house(outer):
    """The house with the calls of the outer thing's house and, behind them, those of its inner house."""
    return ("house", outer[1][1] + outer[2][1])


def need_joint(outer, inner, wanted):
    """What is wanted of an outer thing, a sound document of its inner house, and one of the joint house."""
    need_outer(outer)
    need_document(inner)
    need_document(wanted)
    need_house(inner, outer[2])
    need_house(wanted, joint_house(outer))
    need_sound(inner)


def need_sound(document):
    """Unsound if the document is not sound."""
    if not graph_of(document).is_held_first():
        raise Unsound("the document is not sound")


class Nodes:
    """The nodes of an outer thing."""

    def __init__(self, outer):
        self.nodes = outer[3]
        self.inner_answers = answers_by_call(outer[2])

    def is_wait(self, at):
        """Whether the node with this index waits."""
        return self.nodes[at][0] == "wait"

    def next_for(self, at, answer):
        """The next of an inner node for the answer."""
        _, call, nexts = self.nodes[at]
        return nexts[self.inner_answers[call].index(answer)]


class Flat:
    """The stands of a document, with the indexes of those behind, BROKEN if they are broken, by pairs."""

    def __init__(self, graph):
        self.graph = graph
        self.letter = graph.table.letter
        self.flat = [[to for leads in calls for to in leads] for calls in graph.moves]

    def behind(self, stand, pair):
        """The index of the stand behind a pair (call, answer)."""
        return self.flat[stand][self.letter[pair]]
