"""Orderly right programs, written entry by entry, and read bit by bit."""

from saidandasked.gathering import Gathering
from saidandasked.graphs import BROKEN, cut
from saidandasked.meanings import all_held_moves
from saidandasked.merging import least_moves


def steps_of_rows(graph):
    """The steps, for a gathering, of the rows of the meaning of a sound document.

    A row behind which everything is let wants nothing of a program: it stands in no group.
    """
    moves = least_moves(all_held_moves(graph))
    groups = [0 if steps == [at] * len(steps) else 1 << at for at, steps in enumerate(moves)]
    names = graph.table.answer_names
    return groups[0], [cut([to if to == BROKEN else groups[to] for to in steps], names) for steps in moves]


class Writing:
    """An orderly right program of a sound document, of which the first entries are written."""

    def __init__(self, graph):
        self.graph = graph
        first, steps = steps_of_rows(graph)
        self.gathering = Gathering(steps)
        self.many_calls = len(steps[0])
        # For each state that is met the list of its entries, pairs (answer's index, state), in order.
        self.entries = [[]]
        # For each state that is met the group of the rows with which it comes.
        self.groups = [first]
        # The first state whose entries are not all written.
        self.state = 0

    def is_done(self):
        """Whether all entries are written."""
        return self.state == len(self.entries)

    def entry_call(self):
        """The index of the call of the next entry."""
        return len(self.entries[self.state])

    def choices(self):
        """The list of the open choices of the next entry."""
        call = self.entry_call()
        goals = self.gathering.behind(self.groups[self.state])[call]
        nexts = [len(self.entries)] + list(range(len(self.entries)))
        found = []
        for answer in self.gathering.kept_answers(self.groups[self.state], call):
            found.extend([(answer, to) for to in nexts if self.is_open((answer, to), goals[answer])])
        return found

    def is_open(self, choice, group):
        """Whether a choice is open behind which a group comes that is kept together."""
        to = choice[1]
        # A new state can go on as the group wants it, and a state that has all of it goes on as it does.
        if to == len(self.groups) or self.groups[to] | group == self.groups[to]:
            return True
        found = self.groups_with(choice)
        if found is None:
            return False
        # What states ahead have is written, and no entry of it is broken.
        return all(self.gathering.is_kept(found[state]) for state in found if state >= self.state)

    def groups_with(self, choice):
        """The dict of the states whose groups are other ones with this choice for the next entry.

        It is None if an entry leads to a broken stand.
        """
        call = self.entry_call()
        found = {}
        ahead = [(choice[1], self.gathering.behind(self.groups[self.state])[call][choice[0]])]
        while ahead:
            to, group = ahead.pop()
            if group == BROKEN:
                return None
            known = found.get(to, self.groups[to] if to < len(self.groups) else 0)
            new = group & ~known
            if new:
                found[to] = known | new
                goals = self.gathering.behind(new)
                entries = self.entries_with(choice, to)
                ahead.extend([(goal, goals[at][answer]) for at, (answer, goal) in enumerate(entries)])
        return found

    def entries_with(self, choice, state):
        """The entries of a state that are written, with this choice, if any, for the next entry."""
        found = self.entries[state] if state < len(self.entries) else []
        return found + [choice] if state == self.state and choice is not None else found

    def write(self, choice):
        """Write the next entry."""
        groups = self.groups_with(choice)
        if choice[1] == len(self.entries):
            self.entries.append([])
            self.groups.append(0)
        for state in groups:
            self.groups[state] = groups[state]
        self.entries[self.state].append(choice)
        while self.state < len(self.entries) and len(self.entries[self.state]) == self.many_calls:
            self.state += 1

    def rows(self):
        """The tuple of the rows whose entries are all written, as far as all earlier ones are."""
        names = self.graph.table.answer_names
        found = []
        for entries in self.entries[:self.state]:
            found.append(tuple((names[call][answer], to) for call, (answer, to) in enumerate(entries)))
        return tuple(found)

    def whole(self):
        """The program, all of whose entries are written."""
        return ("program", self.graph.table.house, self.rows())


def short_code(many):
    """The pair of the length of the shorter codes among many, and how many numbers have one."""
    length = many.bit_length() - 1
    return length, (1 << length + 1) - many


def code_of(number, many):
    """The short code among many of a number, as a list of bits."""
    length, short = short_code(many)
    if number < short:
        return digits(number, length)
    return digits(number + short, length + 1)


def digits(number, many):
    """The list of so many binary digits of a number."""
    return [number >> at & 1 for at in range(many - 1, -1, -1)]


def number_coded(bits, many):
    """The number whose short code among many these bits are, None if they only begin some codes."""
    length, short = short_code(many)
    number = 0
    for bit in bits:
        number = 2 * number + bit
    if len(bits) == length and number < short:
        return number
    return number - short if len(bits) > length else None


class Decoding:
    """An orderly right program that is read from bits, as far as these tell it."""

    def __init__(self, graph):
        self.writing = Writing(graph)
        # The open choices of the next entry, two or more unless all is read, and the bits that were read of its code.
        self.waiting = []
        self.pending = []
        self.settle()

    def settle(self):
        """Write the entries with one open choice, up to one with several."""
        while not self.writing.is_done():
            self.waiting = self.writing.choices()
            if len(self.waiting) > 1:
                return
            self.writing.write(self.waiting[0])
        self.waiting = []

    def take(self, bit):
        """Read one more bit."""
        self.pending.append(bit)
        number = number_coded(self.pending, len(self.waiting))
        if number is not None:
            self.writing.write(self.waiting[number])
            self.pending = []
            self.settle()

    def choices_left(self):
        """The list of the open choices whose codes begin with the bits that were read."""
        many = len(self.waiting)
        return [choice for number, choice in enumerate(self.waiting)
                if code_of(number, many)[:len(self.pending)] == self.pending]
