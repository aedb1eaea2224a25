"""Which one of several programs a thing is, found out by asking it."""

from saidandasked.asking import Asking, are_bars, is_left, is_tree
from saidandasked.errors import BadLeft, BadPrograms
from saidandasked.kinds import is_index, is_list, is_tuple_of
from saidandasked.merging import merged
from saidandasked.normals import normal
from saidandasked.programs import is_program


class Candidates:
    """The positions of several programs: for each one its state, or None if it has answered otherwise."""

    def __init__(self, programs):
        self.programs = programs
        self.house = programs[0][1]
        self.first = (0,) * len(programs)
        self.kinds = alike_states(programs)

    def goals(self, position):
        """For each call, for each of its answers, the position behind, None if no program gives it."""
        found = []
        for at, call in enumerate(self.house[1]):
            entries = [None if state is None else program[2][state][at]
                       for program, state in zip(self.programs, position)]
            found.append([position_behind(entries, answer) for answer in call[2]])
        return found

    def is_known(self, position):
        """Whether one program alone has a state."""
        return len(self.still_in(position)) == 1

    def still_in(self, position):
        """The indexes of the programs that have a state."""
        return [at for at, state in enumerate(position) if state is not None]

    def is_lost(self, position):
        """Whether two programs answer all words alike, from their states on."""
        kinds = [self.kinds[at][position[at]] for at in self.still_in(position)]
        return len(set(kinds)) < len(kinds)

    def leaf(self, position):
        """The tree of a known position."""
        return "is", self.still_in(position)[0]

    def seen(self, thing):
        """The position of two programs or more that any value tells, or None."""
        if not is_tuple_of(thing, len(self.programs)):
            return None
        if not all(state is None or is_index(state, len(program[2])) for state, program in zip(thing, self.programs)):
            return None
        return thing if len(self.still_in(thing)) > 1 else None


def position_behind(entries, answer):
    """The position with the states behind this answer, None if no entry has it."""
    found = tuple(None if entry is None or entry[0] != answer else entry[1] for entry in entries)
    return found if any(state is not None for state in found) else None


def alike_states(programs):
    """For each program, for each state, a number: the same for states that answer all words alike."""
    colours = []
    moves = []
    starts = []
    for program in programs:
        starts.append(len(moves))
        for row in program[2]:
            colours.append(tuple(answer for answer, _ in row))
            moves.append([starts[-1] + to for _, to in row])
    numbers = merged(colours, moves)
    return [numbers[start:start + len(program[2])] for start, program in zip(starts, programs)]


def need_candidates(programs):
    """BadPrograms for any value that is no list of 2 to 6 different normal programs of one house."""
    if not is_list(programs) or not 2 <= len(programs) <= 6 or not all(is_program(program) for program in programs):
        raise BadPrograms("no list of 2 to 6 programs")
    if not all(program[1] == programs[0][1] and normal(program) == program for program in programs):
        raise BadPrograms("no normal programs of one house")
    if len(set(programs)) != len(programs):
        raise BadPrograms("one program twice")


def which(programs):
    """("within", most, tree, bars), or ("never", bars)."""
    need_candidates(programs)
    told = Candidates(programs)
    asking = Asking(told, told.first)
    most = asking.rank(told.first)
    if most is None:
        return "never", asking.bars(None)
    return "within", most, asking.tree(), asking.bars(most - 1)


def is_asking_tree(programs, thing):
    """Whether any value is an asking tree of the first position."""
    need_candidates(programs)
    told = Candidates(programs)
    return is_tree(told, told.first, thing)


def are_bars_of(programs, left, thing):
    """Whether any value is bars with a row of the first position and what is left."""
    need_candidates(programs)
    if not is_left(left):
        raise BadLeft("neither None nor a number from 0 on")
    told = Candidates(programs)
    return are_bars(told, told.first, left, thing)
