"""Lots behind histories, and the ways through one clause."""

from saidandasked.errors import BadAnswer, BadCall, BadIndex, BadStand
from saidandasked.houses import answers_by_call
from saidandasked.kinds import is_index, is_string_among
from saidandasked.needs import need_document, need_history
from saidandasked.tables import Table, bits_of, is_broken


def stands_on(table, history):
    """The list of the stands on the way of the history, the first and the last one too."""
    found = [table.first]
    for call, answer in history:
        found.append(table.step(found[-1], call, answer))
    return found


def lots_behind(document, history):
    """The stand behind the history, which goes on behind broken ones."""
    need_document(document)
    need_history(document[1], history)
    table = Table(document)
    return table.shown(stands_on(table, history)[-1])


def is_let(document, history):
    """Whether no stand on the way of the history is broken."""
    return broken_at(document, history) is None


def broken_at(document, history):
    """None, or the number of pairs that break the document and the index of the first clause they break."""
    need_document(document)
    need_history(document[1], history)
    for many, stand in enumerate(stands_on(Table(document), history)):
        if is_broken(stand):
            return many, stand.index(0)
    return None


def first_way(document, at, history):
    """The first tuple of places through the clause with the index at, or None."""
    need_document(document)
    if not is_index(at, len(document[2])):
        raise BadIndex("no index of a clause")
    need_history(document[1], history)
    table = Table(document)
    leads = table.place_leads[at]
    letters = [table.letter[pair] for pair in history]
    ends = lots_that_go_on(leads, letters)
    if not ends[0] & 1:
        return None
    way = [0]
    for letter, lot in zip(letters, ends[1:]):
        way.append(bits_of(leads[way[-1]][letter] & lot)[0])
    return tuple(table.place_names[at][place] for place in way)


def lots_that_go_on(leads, letters):
    """For each number of pairs the places behind them from which the rest of the pairs leads on."""
    everywhere = (1 << len(leads)) - 1
    found = [everywhere]
    for letter in reversed(letters):
        goal = found[-1]
        found.append(sum(1 << place for place, row in enumerate(leads) if row[letter] & goal))
    found.reverse()
    return found


def stand_behind(document, stand, call, answer):
    """The stand to which the pair leads."""
    need_document(document)
    table = Table(document)
    here = table.seen(stand)
    if here is None:
        raise BadStand("no stand by its form")
    known = answers_by_call(document[1])
    if not is_string_among(call, known):
        raise BadCall("no call's name")
    if not is_string_among(answer, known[call]):
        raise BadAnswer("no answer of that call")
    return table.shown(table.step(here, call, answer))
