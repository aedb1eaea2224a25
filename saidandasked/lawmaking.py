"""Laws that are made of clauses, and of other laws as far as documents want them."""

from saidandasked.barring import BARRED, MOST_PLACES, Bars, clause_moves, few_places, need_clause, need_one_object
from saidandasked.graphs import graph_of
from saidandasked.meanings import all_held_moves
from saidandasked.merging import moves_from
from saidandasked.needs import need_document, need_one_house


def law_of(house, clause):
    """A law that bars just the histories that the clause does not let, and always ends."""
    need_clause(house, clause)
    return law_by_clause(house, few_places(house, clause[1], clause_moves(house, clause)))


def law_by_clause(house, clause):
    """The law of a normal clause: it draws whether and how it goes on, and first of all that it does not."""
    places = clause[2]
    lets = {(row[0], row[1]): row[2] for row in clause[3]}
    # A normal clause has one place at most from which nothing is barred: the one without rows.
    told = [place for place in places if any((place, call[1]) in lets for call in house[1])]
    many = 1 + len(house[1])
    true, false = many * len(told), many * len(told) + 1
    starts = {place: true for place in places}
    for at, place in enumerate(told):
        starts[place] = many * at
    nodes = []
    for place in told:
        start = starts[place]
        nodes.append(("draw", (true,) + tuple(start + 1 + at for at in range(len(house[1])))))
        for call in house[1]:
            leads = lets.get((place, call[1]), tuple((answer, place) for answer in call[2]))
            goals = {answer: starts[to] for answer, to in leads}
            nodes.append(("ask", 0, call[1], tuple(goals.get(answer, false) for answer in call[2])))
    return ("law", house, 1, tuple(nodes) + (("true",), ("false",)))


def fair(document, rule):
    """A law that bars just the histories that the law bars and that the document does not hold."""
    need_document(document)
    need_one_object(rule)
    need_one_house(document, rule)
    told = Bars(rule)
    graph = graph_of(document)
    held = all_held_moves(graph)
    first = (told.first, graph.held_index(0))
    moves = moves_from(first, lambda pair: fair_behind(told, held, pair), (BARRED, -1), MOST_PLACES)
    return law_by_clause(document[1], few_places(document[1], "fair", moves))


def fair_behind(told, held, pair):
    """The list of the pairs behind a pair of what a law can be at, or BARRED, and the index of a safe stand, or -1."""
    many = len(told.pairs)
    ones = [BARRED] * many if pair[0] == BARRED else told.behind(pair[0])
    twos = [-1] * many if pair[1] == -1 else held[pair[1]]
    return list(zip(ones, twos))
