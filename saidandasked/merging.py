"""States that nothing tells apart become one, and are numbered as they are met."""

# Neither of two states is anywhere.
BOTH_NOWHERE = (-1, -1)


class Parts:
    """States in parts, which are split until two states of a part are alike."""

    def __init__(self, colours, moves):
        self.part_by_state = []
        # The states of each part, as keys, so that one can be taken out quickly.
        self.members = []
        number = {}
        for state, colour in enumerate(colours):
            if colour not in number:
                number[colour] = len(self.members)
                self.members.append({})
            self.part_by_state.append(number[colour])
            self.members[number[colour]][state] = True
        self.ahead = states_ahead(moves)
        self.waiting = list(range(len(self.members)))
        self.is_waiting = [True] * len(self.members)

    def refine(self):
        """Split parts by what leads to others, until nothing is split any more."""
        while self.waiting:
            goal = self.waiting.pop()
            self.is_waiting[goal] = False
            # The goal may be split itself meanwhile; it is looked at as it is now.
            states = list(self.members[goal])
            for ahead in self.ahead:
                self.split_by(ahead, states)

    def split_by(self, ahead, states):
        """Split each part of which some states alone lead to these ones."""
        hit = {}
        for state in states:
            for source in ahead.get(state, ()):
                hit.setdefault(self.part_by_state[source], []).append(source)
        for part in hit:
            if len(hit[part]) < len(self.members[part]):
                self.cut_off(part, hit[part])

    def cut_off(self, part, states):
        """Make a part of its own of these states of the part."""
        new = len(self.members)
        self.members.append({})
        for state in states:
            del self.members[part][state]
            self.members[new][state] = True
            self.part_by_state[state] = new
        # If the part does not wait, the lesser of both is enough.
        self.is_waiting.append(False)
        if self.is_waiting[part] or len(states) <= len(self.members[part]):
            self.is_waiting[new] = True
            self.waiting.append(new)
        else:
            self.is_waiting[part] = True
            self.waiting.append(part)


def states_ahead(moves):
    """For each kind of move the dict from a state to the list of those that lead to it."""
    found = [{} for step in moves[0]] if moves else []
    for state, steps in enumerate(moves):
        for kind, to in enumerate(steps):
            found[kind].setdefault(to, []).append(state)
    return found


def merged(colours, moves):
    """For each state a number, the same for two that have the same colour and so on behind all moves.

    Each state has as many moves, to other states or, told by -1, to nowhere: that is alike to itself alone.
    Nothing else is asked of the colours than to be keys.
    """
    parts = Parts(colours, moves)
    parts.refine()
    return parts.part_by_state


def met_from(first, moves):
    """The list of the states, as they are met from the first one; negative numbers lead nowhere."""
    found = [first]
    known = {first: True}
    at = 0
    while at < len(found):
        for to in moves[found[at]]:
            if to >= 0 and to not in known:
                known[to] = True
                found.append(to)
        at += 1
    return found


def first_of_each(numbers):
    """The dict from each number to the first index that has it."""
    found = {}
    for at, number in enumerate(numbers):
        if number not in found:
            found[number] = at
    return found


def least_moves(moves):
    """The moves of the fewest states by which the same steps lead from state 0 on, and never to nowhere, -1."""
    numbers = merged([0] * len(moves), moves)
    sources = first_of_each(numbers)
    by_number = {part: [numbers[to] if to >= 0 else -1 for to in moves[sources[part]]] for part in sources}
    order = met_from(numbers[0], by_number)
    place = {part: at for at, part in enumerate(order)}
    return [[place[to] if to >= 0 else -1 for to in by_number[part]] for part in order]


def moves_from(first, behind, nowhere, most):
    """The moves of all states that are met from the first one, numbered as met, -1 in the place of nowhere.

    What is behind a state is told by a list of states. None is returned as soon as it is sure that most states are
    too few for what they do; most is None if any number will do.
    """
    found = [first]
    number = {first: 0, nowhere: -1}
    moves = []
    look = 256
    while len(moves) < len(found):
        states = behind(found[len(moves)])
        for state in states:
            if state not in number:
                number[state] = len(found)
                found.append(state)
        moves.append([number[state] for state in states])
        if most is not None and len(moves) == look:
            look *= 4
            if are_more_than(most, moves):
                return None
    return moves


def are_more_than(most, moves):
    """Whether more than so many states are surely unlike, what is behind some of them being unknown yet."""
    # Alike so far are those that a few steps do not tell apart; and those with unknown states ahead are left out.
    alike = {to: 0 for steps in moves for to in steps}
    alike[-1] = -1
    many = 0
    left = len(alike)
    while left:
        number = {}
        closer = {-1: -1}
        for state, steps in enumerate(moves):
            if all(to in alike for to in steps):
                closer[state] = number.setdefault(tuple(alike[to] for to in steps), len(number))
        if len(number) > most:
            return True
        if len(number) <= many and len(closer) == left:
            return False
        many = len(number)
        left = len(closer) if number else 0
        alike = closer
    return False


def either_moves(one, two, first):
    """The moves of the pairs of states of which one or both are somewhere, as met from the first pair.

    One and two are lists of moves, and -1 stands for nowhere, from where nothing leads on.
    """
    nowhere = [-1] * len((one + two)[0])
    # The index -1 is that of the last state, which is nowhere.
    known = (one + [nowhere], two + [nowhere])
    return moves_from(first, lambda pair: list(zip(known[0][pair[0]], known[1][pair[1]])), BOTH_NOWHERE, None)
