"""The form of outer things."""

from saidandasked.houses import answer_names, answers_by_call, are_names, call_names, is_house
from saidandasked.kinds import is_index, is_string_among, is_told, is_tuple_of


def is_outer(thing):
    """Whether any value is an outer thing."""
    if not is_told(thing, "outer", 4) or not is_house(thing[1]) or not is_house(thing[2]):
        return False
    if not are_names(call_names(thing[1]) + call_names(thing[2]), 5):
        return False
    nodes = thing[3]
    if not isinstance(nodes, tuple) or not 1 <= len(nodes) <= 400:
        return False
    if not all(is_outer_node(thing, node) for node in nodes):
        return False
    return leads_well(nodes) and answers_well(thing)


def is_outer_node(thing, node):
    """Whether any value is a node by its own form, its nexts being any nodes."""
    many = len(thing[3])
    inner = answers_by_call(thing[2])
    if is_told(node, "wait", 2):
        return are_indexes(node[1], len(thing[1][1]), many)
    if is_told(node, "inner", 3):
        return is_string_among(node[1], inner) and are_indexes(node[2], len(inner[node[1]]), many)
    if not is_told(node, "answer", 3) or not is_index(node[2], many):
        return False
    return any(is_string_among(node[1], names) for names in answer_names(thing[1]))


def are_indexes(thing, count, many):
    """Whether any value is a tuple of count indexes of so many nodes."""
    return is_tuple_of(thing, count) and all(is_index(step, many) for step in thing)


def leads_well(nodes):
    """Whether node 0 waits, answer nodes lead to wait nodes, and all others lead on to nodes that do not wait."""
    if nodes[0][0] != "wait":
        return False
    for at, node in enumerate(nodes):
        if node[0] == "answer":
            if nodes[node[2]][0] != "wait":
                return False
        elif any(nodes[step][0] == "wait" for step in node[-1]):
            return False
        elif node[0] == "inner" and min(node[2]) <= at:
            return False
    return True


def served_calls(thing):
    """For each node the dict of the indexes of the calls that it serves."""
    nodes = thing[3]
    served = [{} for node in nodes]
    for node in nodes:
        if node[0] == "wait":
            for call, step in enumerate(node[1]):
                served[step][call] = True
    # The nexts of an inner node are greater than the node, so one way through them is enough.
    for at, node in enumerate(nodes):
        if node[0] == "inner":
            for step in node[2]:
                for call in list(served[at]):
                    served[step][call] = True
    return served


def answers_well(thing):
    """Whether the answer of each answer node is one of each call that it serves."""
    by_call = answer_names(thing[1])
    for node, calls in zip(thing[3], served_calls(thing)):
        if node[0] == "answer" and not all(node[1] in by_call[call] for call in calls):
            return False
    return True
