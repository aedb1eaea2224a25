"""Documents that leave open to which place an answer leads, read in each way."""

from saidandasked.covers import escape
from saidandasked.errors import TooMany
from saidandasked.houses import call_names
from saidandasked.needs import need_document, need_document_and_program
from saidandasked.rights import verdict
from saidandasked.tables import Table, bits_of

MOST_READINGS = 64


def places_of(lets, answer):
    """The places to which an answer of a row leads."""
    return [place for told, place in lets if told == answer]


def answers_of(lets):
    """The answers of a row, each once."""
    return list({answer: True for answer, _ in lets})


def open_answers(document):
    """For each open answer, in order, the places to which it leads."""
    found = []
    for clause in document[2]:
        for _, _, lets in clause[3]:
            leads = [places_of(lets, answer) for answer in answers_of(lets)]
            found.extend([places for places in leads if len(places) > 1])
    return found


def need_few_readings(document, most):
    """TooMany if the document has more readings than there may be."""
    many = 1
    for places in open_answers(document):
        many *= len(places)
    if many > most:
        raise TooMany("too many readings")


def all_readings(document):
    """The list of the readings, the place of the last open answer changing fastest."""
    chosen = [[]]
    for places in open_answers(document):
        chosen = [ahead + [place] for ahead in chosen for place in places]
    return [reading_of(document, places) for places in chosen]


def reading_of(document, places):
    """The reading with these places, one for each open answer."""
    left = list(reversed(places))
    clauses = []
    for clause in document[2]:
        rows = []
        for place, call, lets in clause[3]:
            pairs = []
            for answer in answers_of(lets):
                leads = places_of(lets, answer)
                pairs.append((answer, left.pop() if len(leads) > 1 else leads[0]))
            rows.append((place, call, tuple(pairs)))
        clauses.append(clause[:3] + (tuple(rows),))
    return ("document", document[1], tuple(clauses))


def readings(document):
    """The tuple of all readings."""
    need_document(document)
    need_few_readings(document, MOST_READINGS)
    return tuple(all_readings(document))


def read_by(document, program):
    """The rising tuple of the indexes of the readings by which the program is right."""
    need_document_and_program(document, program)
    need_few_readings(document, MOST_READINGS)
    return tuple(at for at, one in enumerate(all_readings(document)) if verdict(one, program)[0] == "right")


def follower(document, program):
    """For each clause the greatest set by which one can tell its place as the program goes on, or None."""
    need_document_and_program(document, program)
    table = Table(document)
    found = []
    for at, names in enumerate(table.place_names):
        places = followed(table, table.place_leads[at], program)
        if not places[0] & 1:
            return None
        found.append(tuple((state, names[place]) for state, lot in enumerate(places) for place in bits_of(lot)))
    return tuple(found)


def followed(table, leads, program):
    """For each state the lot of the places that can be told there, as the program goes on."""
    rows = program[2]
    places = [(1 << len(leads)) - 1 for row in rows]
    sources = [{} for row in rows]
    for state, row in enumerate(rows):
        for _, to in row:
            sources[to][state] = True
    waiting = list(range(len(rows)))
    is_waiting = [True] * len(rows)
    while waiting:
        state = waiting.pop()
        is_waiting[state] = False
        left = kept_places(table, leads, places, rows[state], places[state])
        if left != places[state]:
            places[state] = left
            # Whatever leads here has fewer places to go to.
            for source in sources[state]:
                if not is_waiting[source]:
                    is_waiting[source] = True
                    waiting.append(source)
    return places


def kept_places(table, leads, places, row, lot):
    """The places of the lot from which each entry of the row leads to one of those behind it."""
    steps = [(table.letter[(call, answer)], places[to]) for call, (answer, to) in zip(call_names(table.house), row)]
    good = [at for at in bits_of(lot) if all(leads[at][letter] & goal for letter, goal in steps)]
    return sum([1 << at for at in good])


def unread(document):
    """An escape of the document and its readings, None if each right program is right by a reading."""
    need_document(document)
    need_few_readings(document, 3)
    return escape(document, tuple(all_readings(document)))
