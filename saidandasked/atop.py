"""What an outer thing does upon an inner program."""

from saidandasked.errors import BadWord
from saidandasked.houses import call_names, is_word
from saidandasked.joining import Nodes, need_house, need_outer
from saidandasked.needs import need_program
from saidandasked.normals import normal
from saidandasked.walks import Walk


class Upon:
    """An outer thing upon an inner program: it is at wait nodes, its object in states."""

    def __init__(self, outer, program):
        self.thing = Nodes(outer)
        self.state_rows = program[2]
        self.call_number = {name: at for at, name in enumerate(call_names(outer[2]))}

    def answered(self, site, call):
        """The pairs (call, answer) of the inner calls for the call with this index, the answer, and the site behind."""
        wait, state = site
        at = self.thing.nodes[wait][1][call]
        pairs = []
        while self.thing.nodes[at][0] == "inner":
            name = self.thing.nodes[at][1]
            answer, state = self.state_rows[state][self.call_number[name]]
            pairs.append((name, answer))
            at = self.thing.next_for(at, answer)
        _, answer, wait = self.thing.nodes[at]
        return pairs, answer, (wait, state)


def led(outer, program, word):
    """The joint history of the outer thing upon the program, on a word of its house."""
    need_outer(outer)
    need_program(program)
    if not is_word(outer[1], word):
        raise BadWord("no word of the outer thing's house")
    need_house(program, outer[2])
    upon = Upon(outer, program)
    number = {name: at for at, name in enumerate(call_names(outer[1]))}
    site = (0, 0)
    found = []
    for call in word:
        pairs, answer, site = upon.answered(site, number[call])
        found.extend(pairs + [(call, answer)])
    return tuple(found)


def atop(outer, program):
    """The normal program that answers each word as the outer thing does upon the program."""
    need_outer(outer)
    need_program(program)
    need_house(program, outer[2])
    upon = Upon(outer, program)
    walk = Walk((0, 0))
    rows = []
    while len(rows) < len(walk.found):
        row = []
        for call in range(len(outer[1][1])):
            _, answer, there = upon.answered(walk.found[len(rows)], call)
            walk.meet(there, len(rows), call)
            row.append((answer, walk.number[there]))
        rows.append(tuple(row))
    return normal(("program", outer[1], tuple(rows)))
