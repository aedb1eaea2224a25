"""Whether something can be built of inner programs that does what is wanted."""

from saidandasked.building import Building, Plan
from saidandasked.errors import OtherHouse
from saidandasked.graphs import BROKEN, graph_of, graph_with
from saidandasked.houses import answer_names, call_names
from saidandasked.joining import Flat, need_sound
from saidandasked.kinds import is_string_among, is_tuple_of
from saidandasked.needs import need_document


def need_building(inner, wanted):
    """What is wanted of an inner document and a wanted one of outer calls and those of the inner house behind them."""
    need_document(inner)
    need_document(wanted)
    calls = wanted[1][1]
    many = len(calls) - len(inner[1][1])
    if many < 1 or calls[many:] != inner[1][1]:
        raise OtherHouse("no outer calls with those of the inner house behind them")
    need_sound(inner)


def outer_house(inner, wanted):
    """The house of the outer calls."""
    return ("house", wanted[1][1][:len(wanted[1][1]) - len(inner[1][1])])


def built(inner, wanted):
    """("built", outer) with an outer thing that is fit, or ("barred", bars)."""
    need_building(inner, wanted)
    building = Building(graph_of(inner), graph_of(wanted), outer_house(inner, wanted))
    building.judge()
    if 0 in building.lost:
        return "barred", building.bars()
    return "built", Plan(building).outer()


def are_bars(inner, wanted, thing):
    """Whether any value is bars."""
    need_building(inner, wanted)
    if not isinstance(thing, tuple) or not all(is_tuple_of(bar, 4) and isinstance(bar[3], tuple) for bar in thing):
        return False
    pairs = [pair for bar in thing for pair in bar[3] if is_tuple_of(pair, 2)]
    # The pair of a bar itself stands in its trap.
    graph = graph_with(inner, [pair[0] for pair in pairs])
    other = graph_with(wanted, [pair[1] for pair in pairs])
    judged = Judged(graph, other, outer_house(inner, wanted))
    return all(judged.takes(bar) for bar in thing) and (0, 0) in judged.earlier


class Judged:
    """The bars that were looked at, one behind another, and found to be right."""

    def __init__(self, inner, wanted, house):
        self.inner = inner
        self.wanted = Flat(wanted)
        self.calls = call_names(house)
        self.by_call = answer_names(house)
        # The pairs of stands of which bars tell.
        self.earlier = {}

    def seen(self, one, other):
        """The pair of a safe stand of inner and an unbroken one of wanted that two values tell, or None."""
        stand = self.inner.index_seen(one)
        goal = self.wanted.graph.index_seen(other)
        return (stand, goal) if self.inner.is_held(stand) and goal != BROKEN else None

    def takes(self, bar):
        """Whether a tuple of four, the last one a tuple, is a bar behind the earlier ones; if so, note it."""
        first = self.seen(bar[0], bar[1])
        if not is_string_among(bar[2], self.calls):
            return False
        trap = [self.seen(pair[0], pair[1]) if is_tuple_of(pair, 2) else None for pair in bar[3]]
        if None in trap or not trap or trap[0] != first or len(set(trap)) < len(trap):
            return False
        if not all(self.is_barred(pair, bar[2]) and self.is_trapped(pair, trap) for pair in trap):
            return False
        self.earlier[first] = True
        return True

    def is_barred(self, pair, call):
        """Whether each answer of the call breaks wanted, or leads to a pair of an earlier bar."""
        here, there = pair
        for answer in self.by_call[self.calls.index(call)]:
            goal = self.wanted.behind(there, (call, answer))
            if goal != BROKEN and (here, goal) not in self.earlier:
                return False
        return True

    def is_trapped(self, pair, trap):
        """Whether each inner call has a safe answer that breaks wanted, or leads to a pair of the trap."""
        here, there = pair
        good = {}
        for call, answer, to in self.inner.held_steps(here):
            goal = self.wanted.behind(there, (call, answer))
            if goal == BROKEN or (to, goal) in trap:
                good[call] = True
        return len(good) == len(self.inner.table.call_names)
