"""Histories, told as a clause."""

from saidandasked.beginnings import Beginnings, agree
from saidandasked.errors import BadHistories, BadHouse, TooMany
from saidandasked.freenames import free_names
from saidandasked.houses import call_names, is_history, is_house
from saidandasked.kinds import is_list
from saidandasked.needs import need_name

MOST_PLACES = 40


def need_agreeing(house, histories):
    """BadHistories for any value that is no list of histories that agree."""
    if not is_list(histories):
        raise BadHistories(None)
    for at, history in enumerate(histories):
        if not is_history(house, history) or not all(agree(history, other) for other in histories[:at]):
            raise BadHistories(at)


def told_clause(house, histories, name):
    """The clause of this name by which just the programs are right that have all these histories."""
    if not is_house(house):
        raise BadHouse("no house")
    need_agreeing(house, histories)
    need_name(name)
    told = Beginnings(histories)
    if len(told.steps) + 1 > MOST_PLACES:
        raise TooMany("too many places")
    order = in_order(call_names(house), told.steps)
    places = free_names(len(order) + 1)
    place = {at: places[number] for number, at in enumerate(order)}
    rows = []
    for at in order:
        for call in house[1]:
            if call[1] in told.steps[at]:
                answer, to = told.steps[at][call[1]]
                lets = ((answer, place[to]),)
            else:
                lets = tuple((answer, places[-1]) for answer in call[2])
            rows.append((place[at], call[1], lets))
    return ("clause", name, places, tuple(rows))


def in_order(calls, steps):
    """The beginnings in the order of their words: a shorter one ahead of a longer one, then call by call."""
    found = [0]
    at = 0
    while at < len(found):
        found.extend([steps[found[at]][call][1] for call in calls if call in steps[found[at]]])
        at += 1
    return found
