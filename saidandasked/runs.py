"""Runs of laws over programs."""

from saidandasked.errors import BadScript
from saidandasked.houses import answers_by_call, call_names
from saidandasked.kinds import is_number
from saidandasked.needs import need_one_house, need_program, need_rule


class Steps:
    """A law over a program, whose sites are pairs of the node and the tuple of the objects' states."""

    def __init__(self, program, rule):
        self.state_rows = program[2]
        self.nodes = rule[3]
        self.first = (0, (0,) * rule[2])
        self.call_number = {name: at for at, name in enumerate(call_names(program[1]))}
        self.call_answers = answers_by_call(program[1])

    def entry(self, site):
        """The answer and the state behind, of the ask at this site."""
        node = self.nodes[site[0]]
        return self.state_rows[site[1][node[1]]][self.call_number[node[2]]]

    def behind(self, site):
        """The list of the sites behind, of a draw one for each next, of an end none."""
        at, states = site
        node = self.nodes[at]
        if node[0] == "ask":
            answer, state = self.entry(site)
            step = node[3][self.call_answers[node[2]].index(answer)]
            return [(step, with_state(states, node[1], state))]
        if node[0] == "copy":
            return [(node[3], with_state(states, node[1], states[node[2]]))]
        if node[0] == "draw":
            return [(step, states) for step in node[1]]
        return []


def with_state(states, thing, state):
    """The states, that of the object of this index being this one."""
    return states[:thing] + (state,) + states[thing + 1:]


def is_script(thing):
    """Whether any value is a tuple of numbers."""
    return isinstance(thing, tuple) and all(is_number(number) for number in thing)


def bare(script):
    """The script without zeros at its end."""
    many = len(script)
    while many > 0 and script[many - 1] == 0:
        many -= 1
    return script[:many]


def traced(program, rule, script):
    """What run tells, and the list of the triples that asked tells."""
    need_program(program)
    need_rule(rule)
    if not is_script(script):
        raise BadScript("no script")
    need_one_house(program, rule)
    steps = Steps(program, rule)
    left = list(bare(script))
    # Numbers that are drawn do not come back, so a configuration can come again only among those
    # behind the last draw of a number.
    left.reverse()
    seen = {}
    asks = []
    site = steps.first
    many = 0
    while steps.behind(site):
        if site in seen:
            return ("never", seen[site], many - seen[site]), asks
        seen[site] = many
        node = steps.nodes[site[0]]
        if node[0] == "ask":
            asks.append((node[1], node[2], steps.entry(site)[0]))
        number = 0
        if node[0] == "draw" and left:
            number = left.pop()
            seen = {}
        behind = steps.behind(site)
        site = behind[number % len(behind)]
        many += 1
    return (steps.nodes[site[0]][0], many), asks


def run(program, rule, script):
    """("true", steps), ("false", steps), or ("never", ahead, turn)."""
    return traced(program, rule, script)[0]


def asked(program, rule, script):
    """The tuple of the triples (object, call, answer) of the asks of the run."""
    return tuple(traced(program, rule, script)[1])
