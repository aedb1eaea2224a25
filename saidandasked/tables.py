"""Documents by numbers: a lot is a number whose bits are places, a stand a tuple of lots."""

from saidandasked.houses import answer_names, call_names
from saidandasked.kinds import is_string_among, is_tuple_of, rises


class Table:
    """The leads of a document. The pairs (call, answer) of its house have numbers, in order."""

    def __init__(self, document):
        house = document[1]
        self.house = house
        self.call_names = call_names(house)
        self.answer_names = answer_names(house)
        self.pairs = [(call[1], answer) for call in house[1] for answer in call[2]]
        self.letter = {pair: at for at, pair in enumerate(self.pairs)}
        self.place_names = [clause[2] for clause in document[2]]
        self.place_leads = [clause_leads(self.pairs, clause) for clause in document[2]]
        # Every lot has its start alone at first: bit 0.
        self.first = (1,) * len(document[2])
        self.known_lots = [{} for clause in document[2]]
        self.known_stands = {}

    def lots_after(self, at, lot):
        """Of the clause with the index at, the lots to which the pairs lead from the lot."""
        known = self.known_lots[at]
        if lot not in known:
            known[lot] = joined_leads(self.place_leads[at], lot, len(self.pairs))
        return known[lot]

    def behind(self, stand):
        """The stands to which the pairs lead from the stand, by the pairs' numbers."""
        if stand not in self.known_stands:
            by_clause = [self.lots_after(at, lot) for at, lot in enumerate(stand)]
            # Without clauses there is nothing to zip, but a stand behind each pair all the same.
            found = list(zip(*by_clause)) if by_clause else [()] * len(self.pairs)
            self.known_stands[stand] = found
        return self.known_stands[stand]

    def step(self, stand, call, answer):
        """The stand to which the pair leads from the stand."""
        return self.behind(stand)[self.letter[(call, answer)]]

    def shown(self, stand):
        """The stand as it is told: tuples of names of places."""
        return tuple(
            tuple(names[at] for at in bits_of(lot)) for names, lot in zip(self.place_names, stand)
        )

    def seen(self, thing):
        """The stand by numbers that any value tells, or None if it is no stand by its form."""
        if not is_tuple_of(thing, len(self.place_names)):
            return None
        lots = [lot_seen(names, lot) for names, lot in zip(self.place_names, thing)]
        return None if None in lots else tuple(lots)


def clause_leads(pairs, clause):
    """For each place of the clause the lots to which the pairs lead from it."""
    places = clause[2]
    number = {place: at for at, place in enumerate(places)}
    rows = {(row[0], row[1]): row[2] for row in clause[3]}
    found = []
    for at, place in enumerate(places):
        leads = []
        for call, answer in pairs:
            if (place, call) in rows:
                lets = rows[(place, call)]
                leads.append(sum(1 << number[let[1]] for let in lets if let[0] == answer))
            else:
                leads.append(1 << at)
        found.append(leads)
    return found


def joined_leads(place_leads, lot, many):
    """The lots to which so many pairs lead from any place of the lot."""
    found = [0] * many
    for at in bits_of(lot):
        found = [one | other for one, other in zip(found, place_leads[at])]
    return found


def bits_of(lot):
    """The indexes of the places of a lot, ascending."""
    return [at for at in range(lot.bit_length()) if lot >> at & 1]


def lot_seen(names, thing):
    """The lot that any value tells, or None if it is no ascending tuple of these places."""
    if not isinstance(thing, tuple) or not all(is_string_among(place, names) for place in thing):
        return None
    indexes = [names.index(place) for place in thing]
    return sum(1 << at for at in indexes) if rises(indexes) else None


def is_broken(stand):
    """Whether a lot of the stand is ()."""
    return 0 in stand


def stand_key(stand):
    """What a stand is compared by: lot by lot, place by place."""
    return tuple(tuple(bits_of(lot)) for lot in stand)
