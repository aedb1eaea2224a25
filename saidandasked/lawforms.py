"""The form of laws."""

from saidandasked.houses import answers_by_call, is_house
from saidandasked.kinds import is_index, is_number_between, is_string_among, is_told, is_tuple_of


def is_law(thing):
    """Whether any value is a law."""
    if not is_told(thing, "law", 4) or not is_house(thing[1]) or not is_number_between(thing[2], 1, 3):
        return False
    nodes = thing[3]
    if not isinstance(nodes, tuple) or not nodes:
        return False
    known = answers_by_call(thing[1])
    for at, node in enumerate(nodes):
        # With several objects each next is greater than its node, so that every run ends.
        least = 0 if thing[2] == 1 else at + 1
        if not is_node(known, thing[2], (least, len(nodes)), node):
            return False
    return True


def is_node(known, objects, bounds, node):
    """Whether any value is a node; its nexts are from the first bound on and below the second."""
    if is_told(node, "true", 1) or is_told(node, "false", 1):
        return True
    if is_told(node, "draw", 2):
        return are_draws(bounds, node[1])
    if is_told(node, "copy", 4):
        if not is_index(node[1], objects) or not is_index(node[2], objects):
            return False
        return node[1] != node[2] and is_next(bounds, node[3])
    if not is_told(node, "ask", 4) or not is_index(node[1], objects) or not is_string_among(node[2], known):
        return False
    return are_nexts(bounds, len(known[node[2]]), node[3])


def are_draws(bounds, nexts):
    """Whether any value is a tuple of 1 to 6 nexts."""
    return isinstance(nexts, tuple) and 1 <= len(nexts) <= 6 and are_nexts(bounds, len(nexts), nexts)


def are_nexts(bounds, many, nexts):
    """Whether any value is a tuple of so many nexts."""
    return is_tuple_of(nexts, many) and all(is_next(bounds, step) for step in nexts)


def is_next(bounds, thing):
    """Whether any value is a next within the bounds."""
    return is_number_between(thing, bounds[0], bounds[1] - 1)
