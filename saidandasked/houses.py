"""Houses, words and histories."""

from saidandasked.errors import BadHouse
from saidandasked.kinds import is_string_among, is_told, is_tuple_of
from saidandasked.words import is_name


def are_names(thing, most):
    """Whether any value is a tuple of 1 to so many different names."""
    if not isinstance(thing, tuple) or not 1 <= len(thing) <= most:
        return False
    return all(is_name(name) for name in thing) and len(set(thing)) == len(thing)


def is_call(thing):
    """Whether any value is a call of a house."""
    return is_told(thing, "call", 3) and is_name(thing[1]) and are_names(thing[2], 5)


def is_house(thing):
    """Whether any value is a house."""
    if not is_told(thing, "house", 2):
        return False
    if not isinstance(thing[1], tuple) or not all(is_call(call) for call in thing[1]):
        return False
    return are_names(call_names(thing), 5)


def call_names(house):
    """The names of the calls of a house, in order."""
    return tuple(call[1] for call in house[1])


def answer_names(house):
    """For each call of a house, in order, its answers."""
    return tuple(call[2] for call in house[1])


def answers_by_call(house):
    """The dict from the names of the calls to their answers."""
    return {call[1]: call[2] for call in house[1]}


def is_word(house, thing):
    """Whether any value is a tuple of names of calls of the house."""
    if not is_house(house):
        raise BadHouse("no house")
    names = call_names(house)
    return isinstance(thing, tuple) and all(is_string_among(name, names) for name in thing)


def is_history(house, thing):
    """Whether any value is a tuple of pairs (call, answer) of the house."""
    if not is_house(house):
        raise BadHouse("no house")
    known = answers_by_call(house)
    return isinstance(thing, tuple) and all(is_step(known, pair) for pair in thing)


def is_step(known, thing):
    """Whether any value is a pair of a call and one of its answers."""
    if not is_tuple_of(thing, 2) or not is_string_among(thing[0], known):
        return False
    return is_string_among(thing[1], known[thing[0]])
