"""Finitely many wrong programs that stand for all."""

from saidandasked.kinds import is_list
from saidandasked.pools import greatest_without, least_sets
from saidandasked.promises import need_promise, promise_of
from saidandasked.quarrels import holds_one, lots_of


def least_asking(promise):
    """The tuple of the least groups that ask the clause."""
    return least_sets(len(promise.laws), lambda group: promise.is_asked(group))


def greatest_silent(promise):
    """The list of the greatest silent groups, ascending."""
    return sorted(greatest_without(len(promise.laws), least_asking(promise)))


def silent_groups(document, at, laws):
    """The list of the greatest silent groups."""
    need_promise(document, at, laws)
    return greatest_silent(promise_of(document, laws, at))


def least_groups(document, at, laws):
    """The list of the least groups that ask the clause."""
    need_promise(document, at, laws)
    return sorted(least_asking(promise_of(document, laws, at)))


def mirror(document, at, laws):
    """A list of wrong programs, one for each greatest silent group, that fails just the laws outside it."""
    need_promise(document, at, laws)
    promise = promise_of(document, laws, at)
    return [promise.wrong_program(group) for group in greatest_silent(promise)]


def stands_for_all(document, at, laws, thing):
    """Whether any value is a list of wrong programs that tells of each group whether it asks the clause."""
    need_promise(document, at, laws)
    promise = promise_of(document, laws, at)
    if not is_list(thing) or not all(promise.is_wrong(program) for program in thing):
        return False
    failed = [[number for number in range(len(laws)) if promise.fails(program, number)] for program in thing]
    least = least_asking(promise)
    for group in lots_of(len(laws)):
        all_fail = all(any(number in group for number in numbers) for numbers in failed)
        if all_fail != holds_one(group, least):
            return False
    return True
