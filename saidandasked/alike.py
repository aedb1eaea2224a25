"""Names mean nothing: things with other names."""

from saidandasked.errors import BadNames
from saidandasked.texts import need_thing
from saidandasked.words import is_name


def renamed(thing, names):
    """The thing with other names in the place of some."""
    need_thing(thing)
    if not isinstance(names, dict) or not all(is_name(name) and is_name(names[name]) for name in names):
        raise BadNames("no dict from names to names")
    if len(set(list(names.values()))) < len(names):
        raise BadNames("two names become one")
    kept = [name for name in names_of(thing) if name not in names]
    news = [names[name] for name in names_of(thing) if name in names]
    if any(name in kept for name in news):
        raise BadNames("a name becomes one that the thing has")
    return with_names(thing, names)


def names_of(thing):
    """The list of the names in a thing, each once. All other strings in things are kept words."""
    found = {}
    ahead = [thing]
    while ahead:
        part = ahead.pop()
        if isinstance(part, tuple):
            ahead.extend(part)
        elif is_name(part):
            found[part] = True
    return list(found)


def with_names(part, names):
    """A part of a thing with the names in the place of others."""
    if isinstance(part, tuple):
        return tuple([with_names(inner, names) for inner in part])
    return names.get(part, part) if isinstance(part, str) else part


def is_like(one, other):
    """Whether the things are equal but for their names."""
    need_thing(one)
    need_thing(other)
    names = {}
    back = {}
    ahead = [(one, other)]
    while ahead:
        left, right = ahead.pop()
        if isinstance(left, tuple) and isinstance(right, tuple):
            if len(left) != len(right):
                return False
            ahead.extend(list(zip(left, right)))
        elif is_name(left) and is_name(right):
            # The first time they meet they are put in the place of one another.
            if names.setdefault(left, right) != right or back.setdefault(right, left) != left:
                return False
        elif left != right:
            return False
    return True
