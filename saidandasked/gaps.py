"""Whether a suite shows of programs of any memory that they are right."""

from saidandasked.beginnings import Beginnings
from saidandasked.decided import breaking_way, unsure
from saidandasked.graphs import BROKEN, graph_of
from saidandasked.makers import made_along
from saidandasked.needs import need_document
from saidandasked.opponents import longest_held
from saidandasked.rights import verdict
from saidandasked.suites import need_suite


def gap(document, suite):
    """None if the suite is conclusive, otherwise a program that passes and is not right, and its first such word."""
    need_document(document)
    need_suite(document[1], suite)
    graph = graph_of(document)
    steps = Passing(graph, suite).wrong_steps()
    if steps is None:
        return None
    # Where nothing is told, any answer will do.
    program = made_along(graph, steps, longest_held)
    return program, verdict(document, program)[1]


class Passing:
    """The beginnings of a suite's words, known by numbers, with the stands of programs that pass."""

    def __init__(self, graph, suite):
        self.graph = graph
        # The answers of a suite's words are not told. A longer beginning has a greater number.
        told = Beginnings([tuple((call, None) for call in word) for word in suite])
        number = {name: at for at, name in enumerate(graph.table.call_names)}
        # For each beginning the dict from the calls with which it goes on to the longer one.
        self.longer = [{number[name]: steps[name][1] for name in steps} for steps in told.steps]
        # For each beginning the dicts of the stands that can pass there, and of those that are passed.
        self.good = [{} for steps in self.longer]
        self.find_good()
        self.passed = self.stands_met(self.good)

    def stands_met(self, bounds):
        """For each beginning the dict from the stands to which histories lead to their last steps.

        A step is a triple (stand, call, answer) one call earlier. Stands that are not in the bounds, where there are
        any, are left out.
        """
        found = [{} for steps in self.longer]
        if bounds is None or 0 in bounds[0]:
            found[0][0] = None
        for at, steps in enumerate(self.longer):
            for stand in list(found[at]):
                for call, to in steps.items():
                    for answer, there in enumerate(self.graph.moves[stand][call]):
                        if there != BROKEN and there not in found[to] and (bounds is None or there in bounds[to]):
                            found[to][there] = (stand, call, answer)
        return found

    def find_good(self):
        """Find the stands that can pass, longer beginnings first."""
        came = self.stands_met(None)
        for at in range(len(self.longer) - 1, -1, -1):
            for stand in came[at]:
                if all(self.good_answer(stand, call, to) is not None for call, to in self.longer[at].items()):
                    self.good[at][stand] = True

    def good_answer(self, stand, call, to):
        """The first answer of the call that leads to a stand that can pass at the longer beginning, or None."""
        for answer, there in enumerate(self.graph.moves[stand][call]):
            if there in self.good[to]:
                return answer
        return None

    def first_leak(self):
        """The first (beginning, stand, call, answer) that the suite does not go on with and that need not be sure."""
        known = unsure(self.graph)
        for at, steps in enumerate(self.longer):
            for stand in self.passed[at]:
                for call, leads in enumerate(self.graph.moves[stand]):
                    for answer, there in enumerate(leads):
                        if call not in steps and (there == BROKEN or known[there]):
                            return at, stand, call, answer
        return None

    def wrong_steps(self):
        """The told steps, for made_along, of a program that passes and is not right; None if there is none."""
        leak = self.first_leak()
        if leak is None:
            return None
        at, stand, call, answer = leak
        found = self.passing_steps(self.answers_to(at, stand))
        there = self.graph.moves[stand][call][answer]
        way = [self.pair(call, answer)] + ([] if there == BROKEN else list(breaking_way(self.graph, there)))
        for name, told in way:
            found[at][name] = (told, len(found))
            at = len(found)
            found.append({})
        return found

    def pair(self, call, answer):
        """The pair of the names of a call and an answer."""
        return self.graph.table.call_names[call], self.graph.table.answer_names[call][answer]

    def answers_to(self, goal, stand):
        """The dict from the beginnings ahead of this one to the pairs (call, answer) that lead to the passed stand."""
        source = {to: at for at, steps in enumerate(self.longer) for to in list(steps.values())}
        found = {}
        while self.passed[goal][stand] is not None:
            stand, call, answer = self.passed[goal][stand]
            goal = source[goal]
            found[goal] = (call, answer)
        return found

    def passing_steps(self, chosen):
        """For each beginning the dict from calls to (answer, longer beginning) by which a program passes.

        The chosen ones are given where they are told.
        """
        stands = [0] * len(self.longer)
        found = []
        for at, steps in enumerate(self.longer):
            told = {}
            for call, to in steps.items():
                answer = self.good_answer(stands[at], call, to)
                if at in chosen and chosen[at][0] == call:
                    answer = chosen[at][1]
                stands[to] = self.graph.moves[stands[at]][call][answer]
                name, word = self.pair(call, answer)
                told[name] = (word, to)
            found.append(told)
        return found
