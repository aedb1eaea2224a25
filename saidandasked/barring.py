"""What laws bar, and clauses in their normal form."""

from saidandasked.clauses import is_clause_in
from saidandasked.errors import BadClause, BadHouse, ManyObjects, TooMany
from saidandasked.freenames import free_names
from saidandasked.graphs import graph_of
from saidandasked.houses import is_house
from saidandasked.merging import least_moves, moves_from
from saidandasked.needs import need_history, need_name, need_rule
from saidandasked.tables import bits_of

MOST_PLACES = 40

# In the place of some nodes: one of them is false; and this is so at first, behind no call.
BARRED = -1
DOOMED = -2


class Bars:
    """A law of one object by the nodes at which it can be behind a history, whatever is drawn.

    Some nodes are a number whose bits are asks; those from which no run comes to false are left out.
    """

    def __init__(self, rule):
        self.nodes = rule[3]
        house = rule[1]
        self.pairs = [(call[1], answer) for call in house[1] for answer in call[2]]
        self.letter = {pair: at for at, pair in enumerate(self.pairs)}
        self.by_call = {call[1]: call[2] for call in house[1]}
        self.wakeful = nodes_to_false(self.nodes)
        self.known = {}
        # For each node the asks to which draws lead from it.
        self.reach = [self.drawn_from(at) for at in range(len(self.nodes))]
        # () is never barred.
        self.first = DOOMED if self.reach[0] == BARRED else self.reach[0]

    def drawn_from(self, start):
        """The asks to which draws lead from the node, or BARRED if they lead to false."""
        found = 0
        ahead = [start]
        seen = {start: True}
        while ahead:
            at = ahead.pop()
            node = self.nodes[at]
            if node[0] == "false":
                return BARRED
            if node[0] == "ask" and self.wakeful[at]:
                found |= 1 << at
            if node[0] == "draw":
                for to in node[1]:
                    if to not in seen:
                        seen[to] = True
                        ahead.append(to)
        return found

    def behind(self, state):
        """For each pair (call, answer) the nodes behind it, or BARRED."""
        if state == DOOMED:
            return [BARRED] * len(self.pairs)
        if state not in self.known:
            found = [0] * len(self.pairs)
            for at in bits_of(state):
                node = self.nodes[at]
                for answer, to in zip(self.by_call[node[2]], node[3]):
                    letter = self.letter[(node[2], answer)]
                    goal = self.reach[to]
                    found[letter] = BARRED if BARRED in (goal, found[letter]) else found[letter] | goal
            self.known[state] = found
        return self.known[state]


def nodes_to_false(nodes):
    """For each node of a law whether some way leads from it to a false one."""
    sources = [[] for node in nodes]
    for at, node in enumerate(nodes):
        if node[0] == "ask" or node[0] == "draw":
            for to in node[-1]:
                sources[to].append(at)
    found = [at for at, node in enumerate(nodes) if node[0] == "false"]
    known = [node[0] == "false" for node in nodes]
    step = 0
    while step < len(found):
        for source in sources[found[step]]:
            if not known[source]:
                known[source] = True
                found.append(source)
        step += 1
    return known


def need_one_object(rule):
    """BadLaw for any value that is no law, ManyObjects for a law of several objects."""
    need_rule(rule)
    if rule[2] != 1:
        raise ManyObjects("a law of several objects")


def bars(rule, history):
    """Whether the law bars the history."""
    need_one_object(rule)
    need_history(rule[1], history)
    told = Bars(rule)
    state = told.first
    for pair in history:
        state = told.behind(state)[told.letter[pair]]
        if state == BARRED:
            return True
    return False


def clause_moves(house, clause):
    """The moves of the lots of a clause that come, -1 where it is broken."""
    graph = graph_of(("document", house, (clause,)))
    return [[to for leads in calls for to in leads] for calls in graph.moves]


def clause_told(house, name, moves):
    """The normal clause that lets just the histories that lead from 0 on and never to -1."""
    least = least_moves(moves)
    places = free_names(len(least))
    rows = []
    for at, steps in enumerate(least):
        start = 0
        for call in house[1]:
            leads = steps[start:start + len(call[2])]
            start += len(call[2])
            if any(to != at for to in leads):
                lets = [(answer, places[to]) for answer, to in zip(call[2], leads) if to >= 0]
                rows.append((places[at], call[1], tuple(lets)))
    return ("clause", name, places, tuple(rows))


def few_places(house, name, moves):
    """As clause_told; TooMany if it has too many places, or if this was found ahead of all moves."""
    clause = None if moves is None else clause_told(house, name, moves)
    if clause is None or len(clause[2]) > MOST_PLACES:
        raise TooMany("too many places")
    return clause


def barred_moves(rule, most):
    """The moves of the histories that the law does not bar, -1 to those that it bars; None as moves_from tells."""
    told = Bars(rule)
    return moves_from(told.first, lambda state: told.behind(state), BARRED, most)


def clause_by_law(rule):
    """As law_clause, with any number of places."""
    return clause_told(rule[1], "barred", barred_moves(rule, None))


def need_clause(house, clause):
    """What a house and a clause that are passed must be."""
    if not is_house(house):
        raise BadHouse("no house")
    if not is_clause_in(house, clause):
        raise BadClause("no clause of the house")


def normal_clause(house, clause):
    """The normal clause that lets the same histories."""
    need_clause(house, clause)
    return few_places(house, clause[1], clause_moves(house, clause))


def law_clause(rule, name):
    """The normal clause of this name that lets just the histories that the law does not bar."""
    need_one_object(rule)
    need_name(name)
    return few_places(rule[1], name, barred_moves(rule, MOST_PLACES))
