"""What a law says over every right program of a document, and the papers that show it."""

from saidandasked.graphs import graph_of, graph_with
from saidandasked.kinds import is_index, is_number, is_string_among, is_tuple_of
from saidandasked.makers import made_round, made_with
from saidandasked.needs import need_document_and_rule
from saidandasked.papers import is_ranked, ranked_list
from saidandasked.programs import is_program
from saidandasked.rights import verdict
from saidandasked.runs import is_script, run
from saidandasked.sites import Spread, drawn_script, sites_of


def law_verdict(document, rule):
    """("empty", list), ("falls", program, script), ("never", program, script), or ("true", the least table)."""
    need_document_and_rule(document, rule)
    graph = graph_of(document)
    if not graph.is_held_first():
        return "empty", ranked_list(document)
    sites = sites_of(graph, rule)
    spread = Spread(sites, [sites.first])
    word = spread_word(spread)
    if word == "falls":
        at = spread.first_false()
        steps = spread.walk.way(at)
        return "falls", made_with(graph, sites.histories(spread.found[at], steps)), drawn_script(steps)
    if word == "never":
        return endless(graph, spread)
    return "true", least_table(spread)


def spread_word(spread):
    """What the law does over right programs, by the sites that come from the first one."""
    if spread.first_false() is not None:
        return "falls"
    return "true" if spread.first_endless() is None else "never"


def word_over(graph, rule):
    """The first word of the law's verdict over the document of the graph."""
    if not graph.is_held_first():
        return "empty"
    sites = sites_of(graph, rule)
    return spread_word(Spread(sites, [sites.first]))


def endless(graph, spread):
    """The verdict "never": a right program that goes round and round with the law, and the script to it."""
    at = spread.first_endless()
    way = spread.walk.way(at)
    turn, start = spread.turn_from(at)
    way = way + turn[:start]
    script = drawn_script(way)
    pairs = tuple(step for step in way if isinstance(step, tuple))
    ring = tuple(step for step in turn[start:] if isinstance(step, tuple))
    # Without an ask in it, a turn goes on over any program that has come to it.
    program = made_round(graph, pairs, ring) if ring else made_with(graph, [pairs])
    return "never", program, script


def least_table(spread):
    """The least table over the document: all sites that come, with their ranks."""
    sites = spread.sites
    order = sorted([(sites.key(site), at) for at, site in enumerate(spread.found)])
    return tuple(sites.shown(spread.found[at]) + (spread.ranks[at],) for _, at in order)


def is_law_verdict(document, rule, thing):
    """Whether any value is a verdict of the law over the document, by its own paper."""
    need_document_and_rule(document, rule)
    if is_tuple_of(thing, 2) and is_string_among(thing[0], ("empty", "true")):
        if thing[0] == "empty":
            return shows_empty(document, thing[1])
        return is_table_over(document, rule, thing[1])
    if not is_tuple_of(thing, 3) or not is_string_among(thing[0], ("falls", "never")):
        return False
    if not is_program(thing[1]) or thing[1][1] != document[1] or not is_script(thing[2]):
        return False
    if verdict(document, thing[1])[0] != "right":
        return False
    word = run(thing[1], rule, thing[2])[0]
    return word == ("false" if thing[0] == "falls" else "never")


def shows_empty(document, thing):
    """Whether any value is a ranked list with the first stand."""
    first = graph_of(document).shown(0)
    return is_ranked(document, thing) and any(row[0] == first for row in thing)


def is_table_over(document, rule, thing):
    """Whether any value is a table of the law over a sound document."""
    if not isinstance(thing, tuple) or not all(is_ranked_row(rule, row) for row in thing):
        return False
    # Stands that do not come may be told, and only then it is seen whether they are safe.
    graph = graph_with(document, [row[1] for row in thing] if rule[2] == 1 else [])
    sites = sites_of(graph, rule)
    ranks = {}
    for node, at, rank in thing:
        site = sites.seen(node, at)
        if site is None or site in ranks:
            return False
        ranks[site] = rank
    if not graph.is_held_first() or sites.first not in ranks:
        return False
    return all(leads_down(sites, ranks, site) for site in ranks)


def is_ranked_row(rule, row):
    """Whether any value is a triple of a node that is not false, anything, and a number from 0 on."""
    if not is_tuple_of(row, 3) or not is_index(row[0], len(rule[3])):
        return False
    return rule[3][row[0]][0] != "false" and is_number(row[2]) and row[2] >= 0


def leads_down(sites, ranks, site):
    """Whether all sites behind have ranks, and those that must have lower ones do so."""
    behind = [there for _, there in sites.leads_on(site)]
    if not all(there in ranks for there in behind):
        return False
    lower = behind[:1] if sites.nodes[site[0]][0] == "draw" else behind
    return all(ranks[there] < ranks[site] for there in lower)
