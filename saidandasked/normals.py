"""Programs with the fewest states, and programs side by side."""

from saidandasked.errors import Parted
from saidandasked.houses import call_names
from saidandasked.kinds import is_index, is_tuple_of
from saidandasked.merging import first_of_each, merged, met_from
from saidandasked.needs import need_program, need_programs
from saidandasked.walks import Walk


def normal(program):
    """The program with the fewest states that answers all words as this one does, its states as met."""
    need_program(program)
    rows = program[2]
    colours = [tuple(answer for answer, to in row) for row in rows]
    numbers = merged(colours, [[to for answer, to in row] for row in rows])
    sources = first_of_each(numbers)
    moves = {part: [numbers[to] for answer, to in rows[sources[part]]] for part in sources}
    order = met_from(numbers[0], moves)
    place = {part: at for at, part in enumerate(order)}
    told = []
    for part in order:
        told.append(tuple((answer, place[numbers[to]]) for answer, to in rows[sources[part]]))
    return ("program", program[1], tuple(told))


def side_by_side(program, other):
    """The walk through the pairs of states that come side by side, and the first word that parts them, or None."""
    calls = call_names(program[1])
    walk = Walk((0, 0))
    at = 0
    while at < len(walk.found):
        here = walk.found[at]
        for call, one, two in zip(calls, program[2][here[0]], other[2][here[1]]):
            if one[0] != two[0]:
                return walk, tuple(walk.way(at)) + (call,)
            walk.meet((one[1], two[1]), at, call)
        at += 1
    return walk, None


def parting(program, other):
    """The first word to which the programs give unlike answers, or None."""
    need_programs(program, other)
    return side_by_side(program, other)[1]


def likeness(program, other):
    """The ascending tuple of the pairs of states that come side by side."""
    need_programs(program, other)
    walk, word = side_by_side(program, other)
    if word is not None:
        raise Parted(word)
    return tuple(sorted(walk.found))


def is_likeness(program, other, thing):
    """Whether any value is a tuple of pairs of states that shows that the programs answer all words alike."""
    need_programs(program, other)
    if not isinstance(thing, tuple):
        return False
    told = {}
    for pair in thing:
        if not is_tuple_of(pair, 2):
            return False
        if not is_index(pair[0], len(program[2])) or not is_index(pair[1], len(other[2])) or pair in told:
            return False
        told[pair] = True
    return (0, 0) in told and all(goes_on_alike(program, other, pair, told) for pair in thing)


def goes_on_alike(program, other, pair, told):
    """Whether two states give equal answers to each call and lead to a pair that is told."""
    for one, two in zip(program[2][pair[0]], other[2][pair[1]]):
        if one[0] != two[0] or (one[1], two[1]) not in told:
            return False
    return True
