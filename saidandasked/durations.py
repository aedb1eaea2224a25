"""How long runs of a law go on that is true over every right program."""

from saidandasked.errors import BadMany, NotTrue
from saidandasked.graphs import graph_of
from saidandasked.kinds import is_number_between
from saidandasked.makers import made_with
from saidandasked.needs import need_document, need_one_house, need_rule
from saidandasked.sites import Spread, drawn_script, sites_of
from saidandasked.verdicts import spread_word


def most_steps(document, rule, many):
    """The most steps of a run at a script of so many numbers, and a program and a script that have them."""
    need_document(document)
    need_rule(rule)
    if not is_number_between(many, 0, 40):
        raise BadMany("no number from 0 to 40")
    need_one_house(document, rule)
    graph = graph_of(document)
    if not graph.is_held_first():
        raise NotTrue("empty")
    sites = sites_of(graph, rule)
    spread = Spread(sites, [sites.first])
    word = spread_word(spread)
    if word != "true":
        raise NotTrue(word)
    layers = longest_runs(spread, many)
    steps, at = longest_way(spread, layers)
    program = made_with(graph, sites.histories(spread.found[at], steps))
    return layers[-1][0], program, drawn_script(steps)


def longest_runs(spread, many):
    """For 0 to so many numbers that are not drawn yet, the most steps from each site to the end."""
    layers = [spread.ranks]
    for _ in range(many):
        longest = [0] * len(spread.found)
        for at in spread.order:
            # A number is used up by a draw, so that all its nexts may follow.
            source = layers[-1] if spread.kind(at) == "draw" else longest
            longest[at] = 1 + max([source[there] for there in spread.nexts[at]], default=-1)
        layers.append(longest)
    return layers


def longest_way(spread, layers):
    """The list of the steps of a run that goes on longest, and the site to which it comes."""
    left = len(layers) - 1
    at = 0
    steps = []
    while spread.nexts[at]:
        choices = spread.nexts[at] if left > 0 else spread.lower_ones(at)
        if left > 0 and spread.kind(at) == "draw":
            left -= 1
        best = max(choices, key=lambda there: layers[left][there])
        steps.append(spread.step_to(at, best))
        at = best
    return steps, at
