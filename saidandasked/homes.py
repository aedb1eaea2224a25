"""In which state a thing is that others have called, found out by asking it."""

from saidandasked.asking import Asking, are_bars, is_left, is_tree
from saidandasked.errors import BadLeft, BadState
from saidandasked.kinds import is_index, rises
from saidandasked.needs import need_program
from saidandasked.normals import normal


class KnownStates:
    """The ascending tuples of states in which a thing can be."""

    def __init__(self, program):
        self.house = program[1]
        self.state_rows = program[2]
        self.first = tuple(range(len(program[2])))

    def goals(self, states):
        """For each call, for each of its answers, the known states behind, None if none of these gives it."""
        found = []
        for at, call in enumerate(self.house[1]):
            entries = [self.state_rows[state][at] for state in states]
            behind = [sorted(set([to for told, to in entries if told == answer])) for answer in call[2]]
            found.append([tuple(goal) if goal else None for goal in behind])
        return found

    def is_known(self, states):
        """Whether there is one state alone."""
        return len(states) == 1

    def is_lost(self, states):
        """Never: of a normal program no two states answer all words alike."""
        return False

    def leaf(self, states):
        """The tree of a state that is known."""
        return "state", states[0]

    def seen(self, thing):
        """The known states, two or more, that any value tells, or None."""
        if not isinstance(thing, tuple) or len(thing) < 2:
            return None
        if not all(is_index(state, len(self.state_rows)) for state in thing):
            return None
        return thing if rises(thing) else None


def home(program):
    """How many calls make the state known at the latest, a homing tree, and home bars."""
    told = KnownStates(normal(program))
    asking = Asking(told, told.first)
    most = asking.rank(told.first)
    return most, asking.tree(), () if most == 0 else asking.bars(most - 1)


def is_homing_tree(program, thing):
    """Whether any value is a homing tree of all states."""
    told = KnownStates(normal(program))
    return is_tree(told, told.first, thing)


def are_home_bars(program, left, thing):
    """Whether any value is home bars with a row of all states and what is left."""
    need_program(program)
    if left is None or not is_left(left):
        raise BadLeft("no number from 0 on")
    told = KnownStates(normal(program))
    return are_bars(told, told.first, left, thing)


def begun_at(program, state):
    """The normal program that answers as this one does from the state on."""
    need_program(program)
    if not is_index(state, len(program[2])):
        raise BadState("no state of the program")
    many = len(program[2])
    # The state and state 0 change their places.
    place = [state if at == 0 else 0 if at == state else at for at in range(many)]
    rows = [tuple((answer, place[to]) for answer, to in program[2][place[at]]) for at in range(many)]
    return normal(("program", program[1], tuple(rows)))
