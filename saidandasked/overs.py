"""Laws over programs, at all scripts."""

from saidandasked.kinds import is_index, is_number, is_tuple_of
from saidandasked.needs import need_one_house, need_program, need_rule
from saidandasked.runs import Steps, bare
from saidandasked.walks import Walk


def need_program_and_rule(program, rule):
    """What a program and a law that are passed together must be."""
    need_program(program)
    need_rule(rule)
    need_one_house(program, rule)


def over(program, rule):
    """("falls", script), ("never", script), or ("true", the least table)."""
    need_program_and_rule(program, rule)
    steps = Steps(program, rule)
    walk = Walk(steps.first)
    nexts = []
    at = 0
    while at < len(walk.found):
        here = walk.found[at]
        if steps.nodes[here[0]][0] == "false":
            return "falls", script_to(steps, walk, at)
        behind = steps.behind(here)
        for number, site in enumerate(behind):
            walk.meet(site, at, number)
        nexts.append([walk.number[site] for site in behind])
        at += 1
    ranks = ranks_of_first(nexts)
    if None in ranks:
        return "never", script_to(steps, walk, ranks.index(None))
    return "true", tuple(sorted([(site[0], site[1], rank) for site, rank in zip(walk.found, ranks)]))


def script_to(steps, walk, at):
    """The script at which a run comes to the site with the index at as it was met."""
    found = []
    while walk.came_by[at] is not None:
        at, number = walk.came_by[at]
        if steps.nodes[walk.found[at][0]][0] == "draw":
            found.append(number)
    found.reverse()
    return bare(tuple(found))


def ranks_of_first(nexts):
    """For each site how many steps a run goes on from it if it draws zeros alone; None if it never ends."""
    ranks = [None] * len(nexts)
    seen = [False] * len(nexts)
    for start in range(len(nexts)):
        way = []
        at = start
        while not seen[at]:
            seen[at] = True
            way.append(at)
            if nexts[at]:
                at = nexts[at][0]
        # The way has come to an end, to what is known already, or to a site of its own: a turn.
        for site in reversed(way):
            if not nexts[site]:
                ranks[site] = 0
            elif ranks[nexts[site][0]] is not None:
                ranks[site] = ranks[nexts[site][0]] + 1
    return ranks


def is_table(program, rule, thing):
    """Whether any value is a table of the law over the program."""
    need_program_and_rule(program, rule)
    steps = Steps(program, rule)
    if not isinstance(thing, tuple):
        return False
    ranks = {}
    for row in thing:
        if not is_site_row(program, rule, row) or (row[0], row[1]) in ranks:
            return False
        ranks[(row[0], row[1])] = row[2]
    if steps.first not in ranks:
        return False
    return all(goes_down(steps, ranks, site) for site in ranks)


def is_site_row(program, rule, row):
    """Whether any value is a triple of a node that is not false, states of the objects, and a rank."""
    if not is_tuple_of(row, 3) or not is_index(row[0], len(rule[3])) or rule[3][row[0]][0] == "false":
        return False
    if not is_tuple_of(row[1], rule[2]) or not all(is_index(state, len(program[2])) for state in row[1]):
        return False
    return is_number(row[2]) and row[2] >= 0


def goes_down(steps, ranks, site):
    """Whether all sites behind have ranks, and the first one a lower rank; of asks and copies it is the only one."""
    behind = steps.behind(site)
    if not all(there in ranks for there in behind):
        return False
    return not behind or ranks[behind[0]] < ranks[site]
