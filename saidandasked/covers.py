"""Whether each right program of a document is right by one or another of some others."""

from saidandasked.claims import Claims, Dealing, deal_of
from saidandasked.graphs import graph_of, graph_with
from saidandasked.houses import is_word
from saidandasked.kinds import is_tuple_of
from saidandasked.leads import broken_at
from saidandasked.makers import made_with
from saidandasked.needs import need_document_and_others
from saidandasked.programs import history, is_program
from saidandasked.rights import verdict


def dealing_of(document, others):
    """All that deals lead to from the first claim."""
    return Dealing(Claims(graph_of(document), [graph_of(other) for other in others]))


def cover(document, others):
    """A cover, or None."""
    need_document_and_others(document, others)
    if not graph_of(document).is_held_first():
        return ()
    dealing = dealing_of(document, others)
    if 0 in dealing.deals:
        return None
    return tuple(dealing.claims.shown(claim) for claim in dealing.unbroken())


def escape(document, others):
    """An escape, or None."""
    need_document_and_others(document, others)
    if not graph_of(document).is_held_first():
        return None
    dealing = dealing_of(document, others)
    if 0 not in dealing.deals:
        return None
    histories = dealing.histories()
    program = made_with(dealing.claims.graph, histories)
    return program, tuple(tuple(call for call, _ in told) for told in histories)


def is_cover(document, others, thing):
    """Whether any value is a cover."""
    need_document_and_others(document, others)
    if not isinstance(thing, tuple):
        return False
    graph = graph_with(document, [row[0] for row in thing if is_tuple_of(row, 2)])
    if not graph.is_held_first():
        return thing == ()
    pairs = [pair for row in thing if is_tuple_of(row, 2) and isinstance(row[1], tuple) for pair in row[1]]
    stands = [pair[1] for pair in pairs if is_tuple_of(pair, 2)]
    claims = Claims(graph, [graph_with(other, stands) for other in others])
    told = {}
    for row in thing:
        claim = claims.seen(row)
        if claim is None or claim in told:
            return False
        told[claim] = True
    return claims.first in told and not any(leads_out(claims, told, claim) for claim in told)


def leads_out(claims, told, claim):
    """Whether some deal of the claim leads to none that is told."""
    ways = {}
    for triple, there in claims.all_steps(claim):
        if there not in told:
            ways[(triple[0], triple[2])] = triple[1]
    return deal_of(ways, tuple(at for at, _ in claim[1])) is not None


def is_escape(document, others, thing):
    """Whether any value is an escape."""
    need_document_and_others(document, others)
    if not is_tuple_of(thing, 2) or not is_program(thing[0]) or thing[0][1] != document[1]:
        return False
    if not is_tuple_of(thing[1], len(others)) or not all(is_word(document[1], word) for word in thing[1]):
        return False
    if verdict(document, thing[0])[0] != "right":
        return False
    return all(breaks_last(other, thing[0], word) for other, word in zip(others, thing[1]))


def breaks_last(document, program, word):
    """Whether the program's history of the word breaks the document with its last pair."""
    broken = broken_at(document, history(program, word))
    return broken is not None and broken[0] == len(word)
