"""What kind a value is. Whatever is passed may be any value, so kinds are looked at ahead of all else."""


def is_number(thing):
    """Whether any value is a number: an int that is no bool."""
    return isinstance(thing, int) and not isinstance(thing, bool)


def is_index(thing, many):
    """Whether any value is an index of so many things."""
    return is_number(thing) and 0 <= thing < many


def is_number_between(thing, least, most):
    """Whether any value is a number from the least to the most one."""
    return is_number(thing) and least <= thing <= most


def is_list(thing):
    """Whether any value is a list, or a tuple in its place."""
    return isinstance(thing, (list, tuple))


def is_tuple_of(thing, many):
    """Whether any value is a tuple of so many things."""
    return isinstance(thing, tuple) and len(thing) == many


def is_told(thing, word, many):
    """Whether any value is a tuple of so many things that begins with the word."""
    return is_tuple_of(thing, many) and isinstance(thing[0], str) and thing[0] == word


def is_string_among(thing, names):
    """Whether any value is one of these names. (A list could not even be looked up in a dict.)"""
    return isinstance(thing, str) and thing in names


def rises(keys):
    """Whether each key is greater than the one ahead of it."""
    return all(left < right for left, right in zip(keys, keys[1:]))
