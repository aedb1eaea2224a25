"""Things to test with: by hand, all small ones, and drawn ones (always the same)."""

import random
from itertools import product

ONE = ("house", (("call", "c", ("x", "y")),))
TWO = ("house", (("call", "c", ("x", "y")), ("call", "d", ("x", "y"))))
TURNED = ("house", (("call", "d", ("x", "y")), ("call", "c", ("x", "y"))))
WIDE = ("house", (("call", "zoo", ("no", "yes", "maybe")), ("call", "big", ("q",)), ("call", "at", ("u", "a", "o"))))
STORE = ("house", (("call", "put", ("ok", "full")), ("call", "take", ("ok", "none"))))

THREE = ("house", (("call", "c", ("x", "y", "z")),))
GAMES = ("house", (("call", "go", ("on", "back")), ("call", "win", ("yes", "no"))))

STORE_CLAUSE = ("clause", "store", ("empty", "some"), (
    ("empty", "put", (("ok", "some"),)), ("empty", "take", (("none", "empty"),)),
    ("some", "put", (("ok", "some"), ("full", "some"))), ("some", "take", (("ok", "empty"), ("ok", "some")))))
STORE_DOC = ("document", STORE, (STORE_CLAUSE,))

MADE = ("program", STORE, ((("ok", 1), ("none", 0)), (("ok", 1), ("ok", 1))))


def one_place(name, call, lets):
    """A clause of one place that lets these answers alone to the call."""
    return ("clause", name, ("p",), (("p", call, tuple((answer, "p") for answer in lets)),))


QUARREL_DOC = ("document", ONE, (one_place("one", "c", "x"), one_place("two", "c", "y"), one_place("three", "c", "x")))

# Once y, always y ([79]).
ONCE_DOC = ("document", ONE, (("clause", "once", ("s", "t"), (
    ("s", "c", (("x", "s"), ("y", "t"))), ("t", "c", (("y", "t"),)))),))

# Never x twice, one behind the other ([125]).
TWICE_DOC = ("document", ONE, (("clause", "twice", ("p", "q"), (
    ("p", "c", (("x", "q"), ("y", "p"))), ("q", "c", (("y", "p"),)))),))

FREE_DOC = ("document", TWO, ())

TAKES = ("law", STORE, 1, (("ask", 0, "put", (1, 1)), ("ask", 0, "take", (2, 3)), ("true",), ("false",)))
ENDLESS = ("law", STORE, 1, (("ask", 0, "take", (0, 0)),))
COPIES = ("law", STORE, 2, (
    ("ask", 0, "put", (1, 1)), ("ask", 0, "take", (2, 2)), ("copy", 1, 0, 3), ("ask", 0, "take", (4, 5)),
    ("ask", 1, "take", (6, 7)), ("ask", 1, "take", (7, 6)), ("true",), ("false",)))


def plus_chain(many, name="count"):
    """A document by which c is answered x so many times and then y for ever."""
    places = tuple(free(many + 1))
    rows = [(places[at], "c", (("x", places[at + 1]),)) for at in range(many)]
    rows.append((places[many], "c", (("y", places[many]),)))
    return ("document", ONE, (("clause", name, places, tuple(rows)),))


def rank_chain(many):
    """A document whose first stand has this rank: any answers lead down, and the last lets none."""
    places = tuple(free(many))
    rows = [(places[at], "c", (("x", places[at + 1]), ("y", places[at + 1]))) for at in range(many - 1)]
    rows.append((places[many - 1], "c", ()))
    return ("document", ONE, (("clause", "down", places, tuple(rows)),))


def free(many):
    """The first so many names of one letter, then of two, that are short enough to be no kept words."""
    letters = "abcdefghijklmnopqrstuvwxyz"
    names = list(letters) + [a + b for a in letters for b in letters]
    return names[:many]


def ring(house, many, odd):
    """A program that goes through so many states for each call, and gives the last answer at the odd ones."""
    rows = []
    for at in range(many):
        rows.append(tuple((call[2][-1 if at in odd else 0], (at + 1) % many) for call in house[1]))
    return ("program", house, tuple(rows))


def small_clauses(house, places, most):
    """All clauses of these places in which each row has at most so many lets."""
    keys = [(place, call) for place in places for call in house[1]]
    choices = []
    for place, call in keys:
        lets = [(answer, to) for answer in call[2] for to in places]
        rows = [None]
        for chosen in product((False, True), repeat=len(lets)):
            if sum(chosen) <= most:
                rows.append((place, call[1], tuple(let for let, good in zip(lets, chosen) if good)))
        choices.append(rows)
    for told in product(*choices):
        yield ("clause", "small", places, tuple(row for row in told if row is not None))


def small_documents():
    """All documents of one clause of two places over one call."""
    return [("document", ONE, (clause,)) for clause in small_clauses(ONE, ("p", "q"), 4)]


def drawn_house(draw, most=3):
    names = draw.sample(["call" + letter for letter in "abz"] + ["put", "a", "q", "zz"], draw.randint(1, most))
    return ("house", tuple(("call", name, tuple(draw.sample(["no", "yes", "x", "ok"], draw.randint(1, 3))))
                           for name in names))


def drawn_clause(draw, house, name, places, dense, wide):
    rows = []
    for place in places:
        for call in house[1]:
            if draw.random() < dense:
                lets = [(a, to) for a in call[2] for to in places if draw.random() < wide / len(places)]
                rows.append((place, call[1], tuple(lets)))
    return ("clause", name, places, tuple(rows))


def drawn_document(seed, house=None, most=3):
    draw = random.Random(seed)
    house = house or drawn_house(draw)
    clauses = []
    for at in range(draw.randint(0, most)):
        places = tuple(draw.sample(free(12), draw.randint(1, 4)))
        dense = draw.choice((0.3, 0.6, 0.9))
        clauses.append(drawn_clause(draw, house, "n" + free(9)[at], places, dense, draw.choice((0.8, 1.3, 2))))
    return ("document", house, tuple(clauses))


def drawn_documents(many, first=0):
    return [drawn_document(seed) for seed in range(first, first + many)]


def drawn_program(seed, house, many):
    draw = random.Random(seed)
    rows = []
    for _ in range(many):
        rows.append(tuple((draw.choice(call[2]), draw.randrange(many)) for call in house[1]))
    return ("program", house, tuple(rows))


def drawn_law(seed, house, objects, many):
    draw = random.Random(seed)
    nodes = []
    for at in range(many):
        low = at + 1 if objects > 1 else 0
        kind = draw.choice(("ask", "ask", "ask", "draw", "copy", "true", "false", "true"))
        if low >= many or kind in ("true", "false"):
            nodes.append(("false",) if kind == "false" else ("true",))
        elif kind == "draw":
            nodes.append(("draw", tuple(draw.randrange(low, many) for _ in range(draw.randint(1, 3)))))
        elif kind == "copy" and objects > 1:
            nodes.append(("copy", *draw.sample(range(objects), 2), draw.randrange(low, many)))
        else:
            call = draw.choice(house[1])
            nexts = tuple(draw.randrange(low, many) for _ in call[2])
            nodes.append(("ask", draw.randrange(objects), call[1], nexts))
    return ("law", house, objects, tuple(nodes))


def drawn_outer(seed, most=8):
    """An outer thing: wait nodes, and behind each call a tree of inner nodes that ends in answers."""
    draw = random.Random(seed)
    names = draw.sample(["c", "d", "e", "put", "q"], draw.randint(2, 5))
    cut = draw.randint(1, len(names) - 1)
    calls = [("call", name, tuple(draw.sample(["no", "yes", "x", "ok"], draw.randint(1, 3)))) for name in names]
    house, inner = ("house", tuple(calls[:cut])), ("house", tuple(calls[cut:]))
    waits = draw.randint(1, 2)
    nodes = [None] * waits
    for at in range(waits):
        nexts = []
        for call in house[1]:
            # A chain of inner nodes, each of whose nexts are behind it.
            chain = draw.randint(0, most // 2)
            start = len(nodes)
            nexts.append(start)
            for step in range(start, start + chain):
                asked = draw.choice(inner[1])
                nodes.append(("inner", asked[1], tuple(draw.randint(step + 1, start + chain) for _ in asked[2])))
            nodes.append(("answer", draw.choice(call[2]), draw.randrange(waits)))
        nodes[at] = ("wait", tuple(nexts))
    return ("outer", house, inner, tuple(nodes))


def nested(many):
    told = ()
    for _ in range(many):
        told = (told,)
    return told


class Thing:
    """A value of a class of its own."""


ODD = [
    None, True, False, 0, 1, -1, 2, 7, 999999999, "", "a", "c", "A", "house", "never", "a b", "\n", b"", b"a",
    (), [], {}, set(), frozenset(), (1,), [1], {"a": 1}, {1: 2}, {"a"}, ((),), [[]], (((), ()), ()), ("a", "b"),
    ["a"], ("house", ()), ["house", []], ("document", ONE, []), ("program", ONE, ()), ("law", ONE, 1, ()),
    ("meaning", ONE), ("clause", "a", ("p",), ()), nested(58), [nested(50)], object(), Thing, Thing(), len,
    range(3), ValueError("a"), (None, None), ({}, []), (True,), ((0, 0), (0, 0)), ((True, False),), ((0, 0, 0),),
    (("p",),), ([],), ("breaks", ()), ("try", 0, "c", ()), ("breaks", ["c"]), 2 ** 70, bytearray(b"a"),
]


def bent(thing):
    """Values like this one that are bent in one place, at any depth."""
    if isinstance(thing, tuple):
        yield list(thing)
        yield thing[:-1]
        yield thing[1:]
        yield thing + thing[-1:]
        yield thing + (None,)
        yield tuple(reversed(thing))
        yield ()
        yield dict.fromkeys(range(len(thing)))
        for at, part in enumerate(thing):
            for other in bent(part):
                yield thing[:at] + (other,) + thing[at + 1:]
    elif isinstance(thing, bool):
        yield int(thing)
    elif isinstance(thing, int):
        yield from (thing + 1, thing - 1, -thing - 1, str(thing), None, (thing,), 10 ** 9, True, False)
    elif isinstance(thing, str):
        yield from (thing + "a", thing[:-1], thing.upper(), thing.encode(), None, (thing,), [thing], "", "law", 0,
                    thing + "1", "a", "c", "ok", True, {}, "abcdefghi")
    else:
        yield 0
        yield ()
