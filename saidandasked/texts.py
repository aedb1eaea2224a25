"""Things, written as texts."""

from saidandasked.clauses import is_clause_in, is_document
from saidandasked.errors import BadClause, BadHouse, BadThing
from saidandasked.houses import call_names, is_house
from saidandasked.lawforms import is_law
from saidandasked.outers import is_outer
from saidandasked.programs import is_program
from saidandasked.wants import MOST


def need_thing(thing):
    """BadThing for any value that is none of the things that texts tell."""
    if is_house(thing) or is_document(thing):
        return
    if not is_program(thing) and not is_law(thing) and not is_outer(thing):
        raise BadThing("none of the things")
    if len(thing[-1]) > MOST:
        raise BadThing("too many states or nodes")


def text_of(thing):
    """The text that tells the thing."""
    need_thing(thing)
    word = thing[0]
    if word == "house":
        return whole_text(["house"] + call_lines(thing))
    lines = [f"law {thing[2]}" if word == "law" else word] + call_lines(thing[1])
    if word == "document":
        for clause in thing[2]:
            lines.extend(clause_lines(clause))
    elif word == "program":
        calls = call_names(thing[1])
        lines.extend([state_line(calls, at, row) for at, row in enumerate(thing[2])])
    elif word == "law":
        lines.extend([f"node {at} {deed_told(node)}" for at, node in enumerate(thing[3])])
    else:
        lines.extend(["inner"] + call_lines(thing[2]))
        lines.extend([f"node {at} {step_told(node)}" for at, node in enumerate(thing[3])])
    return whole_text(lines)


def clause_text(house, clause):
    """The lines that tell the clause."""
    if not is_house(house):
        raise BadHouse("no house")
    if not is_clause_in(house, clause):
        raise BadClause("no clause of the house")
    return whole_text(clause_lines(clause))


def whole_text(lines):
    """The lines, each ended by a line feed."""
    return "".join([line + "\n" for line in lines])


def listed(parts):
    """Some parts with commas between them."""
    return ", ".join([str(part) for part in parts])


def call_lines(house):
    """The lines of the calls of a house."""
    return [f"call {call[1]}: {listed(call[2])}" for call in house[1]]


def clause_lines(clause):
    """The lines of a clause."""
    lines = [f"clause {clause[1]}: {listed(clause[2])}"]
    for place, call, lets in clause[3]:
        told = [f"{answer} {to}" for answer, to in lets] if lets else ["never"]
        lines.append(f"{place} {call}: {listed(told)}")
    return lines


def state_line(calls, at, row):
    """The line of a state."""
    entries = [f"{call}: {answer} {state}" for call, (answer, state) in zip(calls, row)]
    return " ".join([f"state {at}"] + entries)


def deed_told(node):
    """What a node of a law does."""
    if node[0] == "ask":
        return f"ask {node[1]} {node[2]}: {listed(node[3])}"
    if node[0] == "copy":
        return f"copy {node[1]} {node[2]} {node[3]}"
    if node[0] == "draw":
        return f"draw {listed(node[1])}"
    return node[0]


def step_told(node):
    """What a node of an outer thing does."""
    if node[0] == "wait":
        return f"wait {listed(node[1])}"
    if node[0] == "inner":
        return f"ask {node[1]}: {listed(node[2])}"
    return f"give {node[1]} {node[2]}"
