"""Right programs that are made, and whether there is only one."""

from saidandasked.beginnings import Beginnings, first_parted
from saidandasked.errors import BadHistories, BadProgram
from saidandasked.freenames import free_names
from saidandasked.graphs import BROKEN
from saidandasked.houses import call_names, is_history
from saidandasked.kinds import is_list
from saidandasked.needs import need_name, need_program
from saidandasked.normals import normal
from saidandasked.ranks import sound_graph
from saidandasked.walks import Walk


def made(document):
    """The normal program that gives the first answer that leads to a safe stand."""
    return made_with(sound_graph(document), [])


def made_with(graph, histories):
    """As made, but for the words of histories that agree and have safe stands on their ways."""
    return made_along(graph, Beginnings(histories).steps, first_held)


def made_round(graph, way, ring):
    """As made, but that it makes the way and then the ring again and again; all stands on them are safe."""
    pairs = way + ring
    steps = [{call: (answer, at + 1)} for at, (call, answer) in enumerate(pairs)]
    call, answer = pairs[-1]
    steps[-1] = {call: (answer, len(way))}
    return made_along(graph, steps, first_held)


def made_along(graph, steps, choose):
    """The normal program with some states that are told, which gives a chosen answer wherever nothing is told.

    For each told state there is the dict from the calls that are told there to (answer, told state), and each
    comes behind one ahead of it. What is chosen is the index of an answer, of a stand and a call.
    """
    start = len(steps)
    # The states are the told ones first, then the stands.
    rows = []
    for told, stand in zip(steps, stands_of(graph, steps)):
        entries = []
        for call, name in enumerate(graph.table.call_names):
            entries.append(told[name] if name in told else chosen_entry(graph, stand, call, start, choose))
        rows.append(tuple(entries))
    for stand, calls in enumerate(graph.moves):
        rows.append(tuple(chosen_entry(graph, stand, call, start, choose) for call in range(len(calls))))
    return normal(("program", graph.table.house, tuple(rows)))


def chosen_entry(graph, stand, call, start, choose):
    """The chosen answer with the state of the stand behind it, these beginning at start."""
    if stand == BROKEN:
        # Behind a broken stand nothing is wanted any more.
        return graph.table.answer_names[call][0], start
    answer = choose(graph, stand, call)
    return graph.table.answer_names[call][answer], start + max(graph.moves[stand][call][answer], 0)


def first_held(graph, stand, call):
    """The index of the first answer that leads to a safe stand."""
    held = graph.held_answers(stand, call)
    # No word comes to a stand that is not safe, so there any answer will do.
    return held[0] if held else 0


def stands_of(graph, steps):
    """The index of the stand behind each told state, BROKEN behind broken ones."""
    found = [0] * len(steps)
    for at, told in enumerate(steps):
        for call, (answer, to) in told.items():
            # A ring leads back to a state whose stand is known, and it is the same one.
            found[to] = stand_after(graph, found[at], (call, answer))
    return found


def stand_after(graph, at, pair):
    """The index of the stand to which the pair leads, BROKEN for a broken one and behind one."""
    if at == BROKEN:
        return BROKEN
    return graph.index_of(graph.table.step(graph.found[at], pair[0], pair[1]))


def kept(document, histories):
    """What becomes of histories that a right program shall have: "parted", "unsafe" or a "program"."""
    graph = sound_graph(document)
    if not is_list(histories):
        raise BadHistories(None)
    for at, history in enumerate(histories):
        if not is_history(document[1], history):
            raise BadHistories(at)
    parted = first_parted(histories)
    if parted is not None:
        return "parted", parted[0], parted[1]
    for at, history in enumerate(histories):
        many = calls_to_unsafe(graph, history)
        if many is not None:
            return "unsafe", at, many
    return "program", made_with(graph, histories)


def calls_to_unsafe(graph, history):
    """The least number of pairs of the history that lead to a stand that is not safe, or None."""
    at = 0
    for many, pair in enumerate(history):
        at = stand_after(graph, at, pair)
        if not graph.is_held(at):
            return many + 1
    return None


def only(document):
    """The one right program, or the first word that two of them answer otherwise."""
    graph = sound_graph(document)
    table = graph.table
    walk = Walk(0)
    at = 0
    # Up to the first choice all right programs answer alike, so a word leads to one stand alone.
    while at < len(walk.found):
        here = walk.found[at]
        for call, name in enumerate(table.call_names):
            held = graph.held_answers(here, call)
            if len(held) > 1:
                way = tuple(walk.way(at))
                second = way + ((name, table.answer_names[call][held[1]]),)
                word = tuple(pair[0] for pair in second)
                return "open", word, made_with(graph, [way]), made_with(graph, [second])
            pair = (name, table.answer_names[call][held[0]])
            walk.meet(graph.moves[here][call][held[0]], at, pair)
        at += 1
    return "only", made_with(graph, [])


def clause_of(program, name):
    """The clause by which just the programs are right that answer as this one does."""
    need_program(program)
    least = normal(program)
    if len(least[2]) > 40:
        raise BadProgram("more than 40 states")
    need_name(name)
    places = free_names(len(least[2]))
    rows = []
    for place, row in zip(places, least[2]):
        for call, (answer, to) in zip(call_names(program[1]), row):
            rows.append((place, call, ((answer, places[to]),)))
    return ("clause", name, places, tuple(rows))
