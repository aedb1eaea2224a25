"""What can come of so many calls, counted and numbered."""

from saidandasked.errors import BadCount, BadFuture, BadNumber
from saidandasked.graphs import graph_of
from saidandasked.kinds import is_number, is_number_between, is_string_among, is_tuple_of
from saidandasked.needs import need_document, need_program


def need_count(k):
    """BadCount for any value that is no number from 0 on."""
    if not is_number(k) or k < 0:
        raise BadCount("no number from 0 on")


class Futures:
    """How many futures there are from the safe stands that come, by how many of k calls are left there."""

    def __init__(self, document, k):
        self.graph = graph_of(document)
        self.names = self.graph.table.answer_names
        # Only stands that come just then are counted, so that no number is greater than the first one's.
        layers = [[0] if self.graph.is_held_first() else []]
        for _ in range(k):
            layers.append(self.held_behind(layers[-1]))
        layers.reverse()
        self.many = [{at: 1 for at in layers[0]}]
        for calls in range(1, k + 1):
            self.many.append({at: self.counted(at, calls) for at in layers[calls]})

    def held_behind(self, stands):
        """The list of the safe stands behind these ones, each once."""
        found = {}
        for at in stands:
            for call in range(len(self.names)):
                for _, to in self.held_pairs(at, call):
                    found[to] = True
        return list(found)

    def counted(self, at, calls):
        """How many futures of so many calls, 1 or more, there are from the stand."""
        whole = 1
        for call in range(len(self.names)):
            whole *= self.choices(at, calls, call)
        return whole

    def first_many(self):
        """How many futures of k calls there are from the first stand."""
        return self.many[-1].get(0, 0)

    def choices(self, at, calls, call):
        """How many pairs (answer, future) of the call a future of so many calls from the stand can have."""
        return sum([self.many[calls - 1][to] for _, to in self.held_pairs(at, call)])

    def held_pairs(self, at, call):
        """The list of the pairs of an answer of the call and the safe stand to which it leads."""
        leads = self.graph.moves[at][call]
        return [(self.names[call][answer], leads[answer]) for answer in self.graph.held_answers(at, call)]

    def told(self, at, calls, number):
        """The future of this number, of so many calls from the stand."""
        if calls == 0:
            return ()
        found = []
        # The pair of the last call changes fastest.
        for call in range(len(self.names) - 1, -1, -1):
            number, left = divmod(number, self.choices(at, calls, call))
            found.append(self.pair_told(at, calls, call, left))
        found.reverse()
        return tuple(found)

    def pair_told(self, at, calls, call, number):
        """The pair (answer, future) of this number, of those that the call can have."""
        for answer, to in self.held_pairs(at, call):
            many = self.many[calls - 1][to]
            if number < many:
                return answer, self.told(to, calls - 1, number)
            number -= many
        return None

    def number_seen(self, at, calls, thing):
        """The number of the future that any value is, of so many calls from the stand, or None."""
        if calls == 0:
            return 0 if is_tuple_of(thing, 0) else None
        if not is_tuple_of(thing, len(self.names)):
            return None
        number = 0
        for call, pair in enumerate(thing):
            left = self.pair_seen(at, calls, call, pair)
            if left is None:
                return None
            number = number * self.choices(at, calls, call) + left
        return number

    def pair_seen(self, at, calls, call, pair):
        """The number of the pair that any value is, of those that the call can have, or None."""
        if not is_tuple_of(pair, 2) or not is_string_among(pair[0], self.names[call]):
            return None
        ahead = 0
        for answer, to in self.held_pairs(at, call):
            if answer == pair[0]:
                left = self.number_seen(to, calls - 1, pair[1])
                return None if left is None else ahead + left
            ahead += self.many[calls - 1][to]
        return None


def futures(document, k):
    """How many futures of k calls there are from the first stand."""
    need_document(document)
    need_count(k)
    return Futures(document, k).first_many()


def future(document, k, number):
    """The future of k calls from the first stand that has this number."""
    need_document(document)
    need_count(k)
    known = Futures(document, k)
    if not is_number_between(number, 0, known.first_many() - 1):
        raise BadNumber("no number of a future")
    return known.told(0, k, number)


def number_of(document, k, told):
    """The number of a future of k calls from the first stand."""
    need_document(document)
    need_count(k)
    known = Futures(document, k)
    number = known.number_seen(0, k, told) if known.first_many() else None
    if number is None:
        raise BadFuture("no such future")
    return number


def future_of(program, k):
    """The future of k calls of the program, whatever documents say."""
    need_program(program)
    need_count(k)
    rows = program[2]
    # Equal states have equal futures, so each is made once for each number of calls.
    found = [()] * len(rows)
    for _ in range(k):
        found = [tuple((answer, found[to]) for answer, to in row) for row in rows]
    return found[0]
