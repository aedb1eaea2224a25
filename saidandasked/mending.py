"""Programs that are mended for a document, and how long they can stay as they are."""

from saidandasked.clauses import is_document
from saidandasked.errors import BadDocuments, Unsound
from saidandasked.graphs import graph_of
from saidandasked.kinds import is_list
from saidandasked.needs import need_document_and_program, need_one_house, need_program
from saidandasked.normals import normal
from saidandasked.rights import verdict
from saidandasked.walks import Walk


def sound_graph_for(document, program):
    """The graph of what must be a document, sound, and of one house with what must be a program."""
    need_document_and_program(document, program)
    graph = graph_of(document)
    if not graph.is_held_first():
        raise Unsound("the document is not sound")
    return graph


def own_entries(graph, program):
    """The rows of the program with the indexes of the answers."""
    names = graph.table.answer_names
    return [[(names[call].index(answer), to) for call, (answer, to) in enumerate(row)] for row in program[2]]


def mended(document, program):
    """The normal program that gives the program's answers where it can, otherwise the first ones that are safe."""
    return mended_by(sound_graph_for(document, program), program)


def mended_by(graph, program):
    """As mended, for the sound document of the graph."""
    own = own_entries(graph, program)
    walk = Walk((0, 0))
    rows = []
    while len(rows) < len(walk.found):
        state, stand = walk.found[len(rows)]
        row = []
        for call, (answer, to) in enumerate(own[state]):
            leads = graph.moves[stand][call]
            given = answer if graph.is_held(leads[answer]) else graph.held_answers(stand, call)[0]
            # The program goes on as if its own answer had been given.
            there = (to, leads[given])
            walk.meet(there, len(rows), call)
            row.append((graph.table.answer_names[call][given], walk.number[there]))
        rows.append(tuple(row))
    return normal(("program", program[1], tuple(rows)))


def first_change(document, program):
    """None if the program is right, otherwise the first word to which mended gives another answer."""
    graph = sound_graph_for(document, program)
    own = own_entries(graph, program)
    walk = Walk((0, 0))
    at = 0
    while at < len(walk.found):
        state, stand = walk.found[at]
        for call, (answer, to) in enumerate(own[state]):
            there = graph.moves[stand][call][answer]
            if not graph.is_held(there):
                return tuple(graph.table.call_names[step] for step in walk.way(at) + [call])
            walk.meet((to, there), at, call)
        at += 1
    return None


def need_editions(documents, program):
    """What is wanted of a list of documents and a program."""
    if not is_list(documents) or not 1 <= len(documents) <= 6:
        raise BadDocuments(None)
    for at, document in enumerate(documents):
        if not is_document(document):
            raise BadDocuments(at)
    need_program(program)
    for document in documents:
        need_one_house(document, program)


def mended_along(documents, program):
    """The program mended for the first document, this one for the second, and so on."""
    need_editions(documents, program)
    graphs = [graph_of(document) for document in documents]
    if not all(graph.is_held_first() for graph in graphs):
        raise Unsound("a document is not sound")
    found = program
    for graph in graphs:
        found = mended_by(graph, found)
    return found


def lasts(documents, program):
    """The index of the first document by which the program is not right, or how many there are."""
    need_editions(documents, program)
    for at, document in enumerate(documents):
        if verdict(document, program)[0] == "breaks":
            return at
    return len(documents)
