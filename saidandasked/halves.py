"""Which half sentences are good for laws: which are needed, and which quarrel."""

from saidandasked.errors import BadLaws, NotTrue, TooMany
from saidandasked.graphs import graph_of
from saidandasked.kinds import is_index, is_number, is_tuple_of
from saidandasked.lawforms import is_law
from saidandasked.needs import need_document, need_one_house, need_rule
from saidandasked.overs import over
from saidandasked.pools import greatest_of, least_sets, need_few_clauses, need_pool, with_set
from saidandasked.programs import is_program
from saidandasked.quarrels import holds_one, lots_of, part_at
from saidandasked.ranks import sound_graph
from saidandasked.rights import verdict
from saidandasked.verdicts import law_verdict, word_over


def need_halves(document, pool, laws):
    """What is wanted of a document, a pool and a tuple of laws."""
    need_document(document)
    need_pool(document, pool)
    if not isinstance(laws, tuple) or not 1 <= len(laws) <= 3:
        raise BadLaws(None)
    for at, rule in enumerate(laws):
        if not is_law(rule):
            raise BadLaws(at)
    for rule in laws:
        need_one_house(document, rule)
    need_few_clauses(document, pool)


class Sets:
    """The sets of a pool: those that quarrel, those that are good for the laws, and all others."""

    def __init__(self, document, pool, laws):
        self.goods = []
        self.quarrels = []
        # For each set that is neither, the index of the first law that is not true.
        self.bads = {}
        for part in lots_of(len(pool)):
            if holds_one(part, self.quarrels):
                continue
            graph = graph_of(with_set(document, pool, part))
            if not graph.is_held_first():
                self.quarrels.append(part)
            elif not holds_one(part, self.goods):
                wrong = [at for at, rule in enumerate(laws) if word_over(graph, rule) != "true"]
                if wrong:
                    self.bads[part] = wrong[0]
                else:
                    self.goods.append(part)

    def greatest_bads(self):
        """The list of those sets of bads that are within no other one."""
        return greatest_of(list(self.bads))


def halves(document, pool, laws):
    """The least good sets, pairs of programs and laws that tell of all others, and the least quarrels."""
    need_halves(document, pool, laws)
    sets = Sets(document, pool, laws)
    bads = []
    for part in sets.greatest_bads():
        at = sets.bads[part]
        bads.append((law_verdict(with_set(document, pool, part), laws[at])[1], at))
    return tuple(sets.goods), tuple(bads), tuple(sets.quarrels)


def is_halves(document, pool, laws, thing):
    """Whether any value is such a triple as halves tells."""
    need_halves(document, pool, laws)
    if not is_tuple_of(thing, 3) or not isinstance(thing[1], tuple):
        return False
    sets = Sets(document, pool, laws)
    if not are_these_sets(thing[0], sets.goods) or not are_these_sets(thing[2], sets.quarrels):
        return False
    if not all(is_bad_pair(document, laws, pair) for pair in thing[1]):
        return False
    missing = [pair[0] for pair in thing[1]]
    return all(is_missed_by_one(document, pool, part, missing) for part in sets.greatest_bads())


def are_these_sets(thing, sets):
    """Whether any value is the tuple of these sets."""
    if not isinstance(thing, tuple) or not all(isinstance(part, tuple) for part in thing):
        return False
    return all(is_number(at) for part in thing for at in part) and thing == tuple(sets)


def is_bad_pair(document, laws, pair):
    """Whether any value is a program that is right by the document, and the index of a law not true over it."""
    if not is_tuple_of(pair, 2) or not is_program(pair[0]) or not is_index(pair[1], len(laws)):
        return False
    if pair[0][1] != document[1] or verdict(document, pair[0])[0] != "right":
        return False
    return over(pair[0], laws[pair[1]])[0] != "true"


def is_missed_by_one(document, pool, part, programs):
    """Whether one of the programs breaks no clause of the set."""
    wanted = with_set(document, pool, part)
    return any(verdict(wanted, program)[0] == "right" for program in programs)


def reasons(document, rule):
    """The tuple of the least sets of the document's own clauses by which the law is true."""
    graph = sound_graph(document)
    need_rule(rule)
    need_one_house(document, rule)
    word = word_over(graph, rule)
    if word != "true":
        raise NotTrue(word)
    if len(document[2]) > 5:
        raise TooMany("more than 5 clauses")
    return least_sets(len(document[2]), lambda part: word_over(graph_of(part_at(document, part)), rule) == "true")
