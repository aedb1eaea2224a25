"""Things upon things: atop [100], fits [101], weakest [102], images [103], [104], stacks [105]; the example of [107]."""

import random
import unittest

from saidandasked.atop import atop, led
from saidandasked.errors import BadDocument, BadOuter, BadProgram, BadWord, OtherHouse, Unsound
from saidandasked.fits import fit, is_fit_table
from saidandasked.images import image
from saidandasked.meanings import document_of, is_meaning, meaning
from saidandasked.narrow import apart
from saidandasked.normals import normal
from saidandasked.outers import is_outer
from saidandasked.stacks import stacked
from saidandasked.weakest import weakest
from tests import plain, samples
from tests.samples import MADE, ODD, ONE, QUARREL_DOC, STORE_DOC, TWO, bent, ring
from tests.test_covers import document_of_clauses

# The example by hand ([107]).
OUTSIDE = ("house", (("call", "c", ("no", "yes")),))
INSIDE = ("house", (("call", "q", ("x", "y")),))
HAND = ("outer", OUTSIDE, INSIDE, (("wait", (1,)), ("inner", "q", (2, 3)), ("answer", "yes", 0), ("answer", "no", 0)))
INNER = document_of_clauses(INSIDE, ("clause", "i", ("s", "t"), (
    ("s", "q", (("x", "t"), ("y", "s"))), ("t", "q", (("x", "t"),)))))
ASKED_CLAUSE = ("clause", "a", ("n", "e"), (("n", "c", (("no", "n"), ("yes", "e"))), ("e", "c", (("yes", "e"),))))
ASKED = document_of_clauses(OUTSIDE, ASKED_CLAUSE)
JOINT = ("house", OUTSIDE[1] + INSIDE[1])
WANTED = document_of_clauses(JOINT, ASKED_CLAUSE)

HOUSES = [
    (OUTSIDE, INSIDE),
    (OUTSIDE, ("house", (("call", "q", ("x", "y")), ("call", "r", ("x", "z"))))),
    (("house", (("call", "c", ("no", "yes")), ("call", "d", ("yes",)))), INSIDE),
    (("house", (("call", "c", ("no", "yes")), ("call", "d", ("no", "yes")))),
     ("house", (("call", "q", ("x", "y")), ("call", "r", ("x",))))),
    (OUTSIDE, ("house", (("call", "q", ("x", "y")), ("call", "r", ("x",)), ("call", "u", ("y",)), ("call", "w", ("x",))))),
    (("house", (("call", "c", ("no", "yes")), ("call", "d", ("yes", "no")), ("call", "e", ("yes",)), ("call", "f", ("yes", "on")))),
     INSIDE),
]


def joint(outer):
    return ("house", outer[1][1] + outer[2][1])


def drawn_thing(seed, house, inner, waits=3, most=4):
    """An outer thing with nodes that may serve several calls, and some that serve none."""
    draw = random.Random(seed)
    waits = draw.randint(1, waits)
    many = draw.randint(0, most)
    common = [answer for answer in house[1][0][2] if all(answer in call[2] for call in house[1])]
    answers = [("answer", answer, draw.randrange(waits)) for answer in common for _ in range(2)]
    start = waits + many
    nodes = [None] * waits
    for at in range(waits, start):
        call = draw.choice(inner[1])
        nodes.append(("inner", call[1], tuple(draw.randrange(at + 1, start + len(answers)) for _ in call[2])))
    nodes += answers
    # Answers of one call alone, which no other one leads to.
    own = {}
    for call in house[1]:
        own[call[1]] = len(nodes)
        nodes.append(("answer", draw.choice(call[2]), draw.randrange(waits)))
    for at in range(waits):
        nodes[at] = ("wait", tuple(draw.choice([own[call[1]]] + [draw.randrange(waits, start + len(answers))] * 4)
                                   for call in house[1]))
    thing = ("outer", house, inner, tuple(nodes))
    return thing


def drawn_clauses(seed, house, names="kl", strictly=0.8):
    """Clauses, some of which lead each answer that they let to one place, some to several or none."""
    draw = random.Random(seed)
    found = []
    for name in names[:draw.randint(1, len(names))]:
        places = tuple(samples.free(draw.randint(1, 4)))
        if draw.random() < 0.4:
            found.append(samples.drawn_clause(draw, house, "n" + name, places, strictly, draw.choice((0.9, 1.3, 1.7))))
            continue
        rows = []
        for place in places:
            for call in house[1]:
                if draw.random() < strictly:
                    lets = [(answer, draw.choice(places)) for answer in call[2] if draw.random() < 0.8]
                    rows.append((place, call[1], tuple(lets)))
        found.append(("clause", "n" + name, places, tuple(rows)))
    return tuple(found)


def cases(many, first=0):
    """Outer things, sound inner documents, and wanted documents of the joint house."""
    for seed in range(first, first + many):
        house, inside = HOUSES[seed % 6]
        outer = drawn_thing(seed, house, inside)
        inner = ("document", inside, drawn_clauses(seed * 3, inside))
        if seed % 5 == 0:
            inner = ("document", inside, ())
        wanted = ("document", joint(outer), drawn_clauses(seed * 7 + 1, joint(outer), strictly=(0.3, 0.5, 0.8)[seed % 3]))
        if seed % 7 == 0:
            # Clauses of the house alone.
            wanted = ("document", joint(outer), drawn_clauses(seed * 11 + 2, house))
        if plain.sound(inner):
            yield outer, inner, wanted


# Outer things, by the words of the document.

def inner_way(outer, node, answer):
    names = plain.answers_of(outer[2], node[1])
    return outer[3][node[2][names.index(answer)]]


def run_led(outer, program, word):
    state, wait, told = 0, outer[3][0], ()
    calls = plain.calls(outer[1])
    for call in word:
        node = outer[3][wait[1][calls.index(call)]]
        while node[0] == "inner":
            answer, state = program[2][state][plain.calls(program[1]).index(node[1])]
            told += ((node[1], answer),)
            node = inner_way(outer, node, answer)
        told += ((call, node[1]),)
        wait = outer[3][node[2]]
    return told


def is_safe(document, stand):
    return () not in stand and plain.ranks(document, stand)[stand] is None


def ends_of(outer, inner, wanted, triple, call):
    """What a call can lead to from (wait node, stand, stand): triples, and None where wanted is broken."""
    wait, stand, other = triple
    found = []

    def follow(at, here, there):
        node = outer[3][at]
        if node[0] == "answer":
            there = plain.stand_after(wanted, there, call, node[1])
            found.append(None if () in there else (node[2], here, there))
            return
        for answer, to in zip(plain.answers_of(outer[2], node[1]), node[2]):
            behind = plain.stand_after(inner, here, node[1], answer)
            if is_safe(inner, behind):
                goal = plain.stand_after(wanted, there, node[1], answer)
                if () in goal:
                    found.append(None)
                else:
                    follow(to, behind, goal)

    follow(outer[3][wait][1][plain.calls(outer[1]).index(call)], stand, other)
    return found


def first_triple(inner, wanted):
    return 0, plain.first_stand(inner), plain.first_stand(wanted)


def calls_to_fall(outer, inner, wanted):
    """The fewest calls with which wanted can be broken, None if it cannot; and the triples that come."""
    layer = [first_triple(inner, wanted)]
    met = list(layer)
    many = 0
    while layer:
        many += 1
        new = []
        for triple in layer:
            for call in plain.calls(outer[1]):
                for there in ends_of(outer, inner, wanted, triple, call):
                    if there is None:
                        return many, met
                    if there not in met:
                        met.append(there)
                        new.append(there)
        layer = new
    return None, met


def table_form(outer, inner, wanted, thing):
    if not isinstance(thing, tuple) or not all(isinstance(row, tuple) and len(row) == 3 for row in thing):
        return False
    for node, stand, other in thing:
        if not plain.number(node) or not 0 <= node < len(outer[3]) or outer[3][node][0] != "wait":
            return False
        for document, told in ((inner, stand), (wanted, other)):
            if not isinstance(told, tuple) or len(told) != len(document[2]):
                return False
            for clause, lot in zip(document[2], told):
                if not isinstance(lot, tuple) or not lot or not all(isinstance(place, str) for place in lot):
                    return False
                if not all(place in clause[2] for place in lot):
                    return False
                if not plain.ascending([clause[2].index(place) for place in lot]):
                    return False
        if not is_safe(inner, stand):
            return False
    if len(set(thing)) < len(thing) or first_triple(inner, wanted) not in thing:
        return False
    return all(there in thing for triple in thing for call in plain.calls(outer[1])
               for there in ends_of(outer, inner, wanted, triple, call))


def keeps_wanted(outer, wanted, program):
    """Whether wanted lets all joint histories of the outer thing with this program."""
    queue = [(0, 0, plain.first_stand(wanted))]
    for wait, state, stand in queue:
        for call, at in zip(plain.calls(outer[1]), outer[3][wait][1]):
            node, here, there = outer[3][at], state, stand
            while node[0] == "inner":
                answer, here = program[2][here][plain.calls(program[1]).index(node[1])]
                there = plain.stand_after(wanted, there, node[1], answer)
                node = inner_way(outer, node, answer)
            there = plain.stand_after(wanted, there, call, node[1])
            if () in there:
                return False
            if (node[2], here, there) not in queue:
                queue.append((node[2], here, there))
    return True


def has(said, history):
    """Whether a meaning has a history."""
    if not said[2]:
        return False
    at = 0
    for call, answer in history:
        leads = dict(said[2][at][plain.calls(said[1]).index(call)])
        if answer not in leads:
            return False
        at = leads[answer]
    return True


def programs_of(house, step=1, seed=0):
    return list(plain.programs(house, 2))[seed % step::step]


class Upon(unittest.TestCase):
    def things(self, many):
        for seed in range(many):
            if seed % 3:
                house, inside = HOUSES[seed % 6]
                outer = drawn_thing(seed, house, inside)
            else:
                outer = samples.drawn_outer(seed)
            self.assertTrue(is_outer(outer))
            for at in range(4):
                yield outer, samples.drawn_program(seed * 4 + at, outer[2], 1 + at)

    def test_all(self):
        for outer, program in self.things(90):
            told = atop(outer, program)
            self.assertTrue(plain.program_form(told))
            self.assertEqual(told[1], outer[1])
            self.assertEqual(normal(told), told)
            for word in plain.words(outer[1], 3 if len(outer[1][1]) < 3 else 2):
                history = run_led(outer, program, word)
                self.assertEqual(led(outer, program, word), history)
                own = tuple(answer for call, answer in history if call in plain.calls(outer[1]))
                self.assertEqual(plain.trace(told, word)[0], own)

    def test_by_hand(self):
        program = ("program", INSIDE, ((("y", 1),), (("x", 1),)))
        self.assertEqual(led(HAND, program, ("c", "c")), (("q", "y"), ("c", "no"), ("q", "x"), ("c", "yes")))
        self.assertEqual(led(HAND, program, ()), ())
        self.assertEqual(atop(HAND, program), ("program", OUTSIDE, ((("no", 1),), (("yes", 1),))))
        silent = ("outer", OUTSIDE, INSIDE, (("wait", (2,)), ("wait", (3,)), ("answer", "no", 1), ("answer", "yes", 0)))
        self.assertEqual(led(silent, program, ("c",) * 3), (("c", "no"), ("c", "yes"), ("c", "no")))
        self.assertEqual(atop(silent, program), ("program", OUTSIDE, ((("no", 1),), (("yes", 0),))))

    def test_four_hundred_nodes(self):
        program = ring(INSIDE, 400, (3, 399))
        nodes = [("wait", (1,))] + [("inner", "q", (at + 1, at + 1)) for at in range(1, 398)]
        nodes += [("answer", "no", 399), ("wait", (398,))]
        outer = ("outer", OUTSIDE, INSIDE, tuple(nodes))
        self.assertTrue(is_outer(outer))
        told = led(outer, program, ("c",) * 3)
        self.assertEqual(len(told), 400)
        self.assertEqual(told[3], ("q", "y"))
        self.assertEqual(atop(outer, program), ("program", OUTSIDE, ((("no", 0),),)))
        inner = document_of_clauses(INSIDE)
        wanted = document_of_clauses(JOINT, ("clause", "k", ("s",), (("s", "q", (("x", "s"),)),)))
        self.assertEqual(fit(outer, inner, wanted)[2], ("c",))
        # The first 397 inner answers must be x, behind that nothing is said.
        said = weakest(outer, wanted)
        self.assertEqual(len(said[2]), 398)
        self.assertTrue(has(said, (("q", "x"),) * 397 + (("q", "y"),)))
        self.assertFalse(has(said, (("q", "x"),) * 396 + (("q", "y"),)))
        self.assertEqual(len(image(outer, inner)[2]), 1)
        self.assertEqual(fit(outer, inner, document_of_clauses(JOINT))[0], "fit")
        twice = stacked(outer_of_all(OUTSIDE, "d"), outer)
        self.assertEqual(atop(twice, program)[2], atop(outer, program)[2])

    def test_errors(self):
        program = ring(INSIDE, 1, ())
        for thing in ODD + [MADE, HAND[:3] + (list(HAND[3]),)]:
            for asking, rest in ((led, (None, None)), (atop, (None,))):
                with self.assertRaises(BadOuter):
                    asking(thing, *rest)
        for thing in ODD:
            for asking, rest in ((led, (None,)), (atop, ())):
                with self.assertRaises(BadProgram):
                    asking(HAND, thing, *rest)
            if thing != () or not isinstance(thing, tuple):
                with self.assertRaises(BadWord):
                    led(HAND, MADE, thing)
        for word in (("q",), ["c"], "c", ("c", None), (("c",),)):
            with self.assertRaises(BadWord):
                led(HAND, MADE, word)
        with self.assertRaises(OtherHouse):
            led(HAND, MADE, ("c",))
        with self.assertRaises(OtherHouse):
            atop(HAND, ring(OUTSIDE, 1, ()))
        self.assertEqual(led(word=("c",), program=program, outer=HAND), (("q", "x"), ("c", "yes")))
        self.assertEqual(atop(program=program, outer=HAND), ("program", OUTSIDE, ((("yes", 0),),)))


def outer_of_all(house, name):
    """An outer thing of one call with the answers of the house's first call, that hands it on."""
    _, call, answers = house[1][0]
    nodes = (("wait", (1,)), ("inner", call, tuple(range(2, 2 + len(answers)))))
    nodes += tuple(("answer", answer, 0) for answer in answers)
    return ("outer", ("house", (("call", name, answers),)), house, nodes)


class Fits(unittest.TestCase):
    def check(self, outer, inner, wanted):
        told = fit(outer, inner, wanted)
        many, met = calls_to_fall(outer, inner, wanted)
        if many is None:
            self.assertEqual((len(told), told[0]), (2, "fit"))
            self.assertTrue(table_form(outer, inner, wanted, told[1]))
            self.assertIs(is_fit_table(outer, inner, wanted, told[1]), True)
            self.assertIs(is_fit_table(outer, inner, wanted, tuple(reversed(met))), True)
        else:
            self.assertEqual((len(told), told[0]), (3, "falls"))
            program, word = told[1:]
            self.assertTrue(plain.program_form(program) and program[1] == outer[2])
            self.assertTrue(plain.right(inner, program))
            self.assertEqual(len(word), many)
            self.assertFalse(plain.let(wanted, run_led(outer, program, word)))
        return told

    def test_all(self):
        seen = {}
        for number, (outer, inner, wanted) in enumerate(cases(330)):
            told = self.check(outer, inner, wanted)
            key = told[0] if told[0] == "fit" else len(told[2])
            seen[key] = seen.get(key, 0) + 1
            for program in programs_of(outer[2], 9, number)[:40]:
                if told[0] == "fit" and plain.right(inner, program):
                    self.assertTrue(keeps_wanted(outer, wanted, program))
        self.assertTrue({"fit", 1, 2, 3} <= set(seen), seen)
        self.assertGreater(seen["fit"], 40)

    def test_by_hand(self):
        self.assertEqual(set(self.check(HAND, INNER, WANTED)[1]),
                         {(0, (("s",),), (("n",),)), (0, (("t",),), (("e",),))})
        loose = document_of_clauses(INSIDE, INNER[2][0][:3] + (INNER[2][0][3][:1],))
        told = self.check(HAND, loose, WANTED)
        self.assertEqual((told[0], told[2]), ("falls", ("c", "c")))
        self.assertEqual(plain.trace(told[1], ("q", "q"))[0], ("x", "y"))
        # Clauses for inner calls alone: what is called inside.
        never = document_of_clauses(JOINT, ("clause", "z", ("z",), (("z", "q", ()),)))
        self.assertEqual(self.check(HAND, INNER, never)[2], ("c",))
        self.check(HAND, INNER, document_of_clauses(JOINT))
        # Wanted need not be sound.
        self.check(HAND, INNER, document_of_clauses(JOINT, ("clause", "k", ("s", "t"), (
            ("s", "c", (("no", "s"), ("yes", "t"))), ("t", "c", ())))))

    def test_thing_that_asks_nothing(self):
        silent = ("outer", OUTSIDE, INSIDE, (("wait", (1,)), ("answer", "no", 0)))
        self.assertEqual(self.check(silent, INNER, WANTED)[0], "fit")
        self.assertEqual(weakest(silent, WANTED), meaning(document_of_clauses(INSIDE)))
        wrong = document_of_clauses(JOINT, samples.one_place("k", "c", ("yes",)))
        self.assertEqual(self.check(silent, INNER, wrong)[2], ("c",))
        self.assertEqual(weakest(silent, wrong), ("meaning", INSIDE, ()))
        self.assertEqual(image(silent, INNER), meaning(document_of_clauses(OUTSIDE, samples.one_place("k", "c", ("no",)))))

    def test_bent_tables(self):
        count = 0
        for outer, inner, wanted in list(cases(60)) + [(HAND, INNER, WANTED)]:
            told = fit(outer, inner, wanted)
            if told[0] != "fit":
                self.assertFalse(any(is_fit_table(outer, inner, wanted, thing) for thing in ODD + [
                    (first_triple(inner, wanted),), tuple(calls_to_fall(outer, inner, wanted)[1])]))
                continue
            count += 1
            things = list(bent(told[1]))
            for thing in things[::1 + len(things) // 150] + ODD:
                self.assertIs(is_fit_table(outer, inner, wanted, thing), table_form(outer, inner, wanted, thing), thing)
        self.assertGreater(count, 10)

    def test_stands_that_do_not_come(self):
        table = fit(HAND, INNER, WANTED)[1]
        more = [(2, (("t",),), (("e",),)), (3, (("t",),), (("e",),)), (0, (("t",),), ((),)), (0, (("t",),), (("s",),)),
                (0, (("s",),), (("e",),)), (0, (("s", "t"),), (("e",),)), (0, (("t",),), (("n",),)), (0, ((),), (("e",),)),
                (0, (("t",),), (("n", "e"),)), (1, (("t",),), (("e",),)), (0, (("t", "s"),), (("e",),))]
        for one in more:
            for other in more:
                thing = table + ((one,) if one == other else (one, other))
                self.assertIs(is_fit_table(HAND, INNER, WANTED, thing), table_form(HAND, INNER, WANTED, thing), thing)

        # A place to which nothing leads.
        inner = document_of_clauses(INSIDE, INNER[2][0][:2] + (("s", "t", "u", "v"), INNER[2][0][3] + (
            ("u", "q", (("x", "t"),)), ("v", "q", (("y", "t"),)))))
        for stands, good in (((("u",),), True), ((("u", "v"),), False), ((("v",),), False), ((("t", "u"),), True)):
            thing = table + ((0, stands, (("e",),)),)
            self.assertIs(is_fit_table(HAND, inner, WANTED, thing), good)
            self.assertIs(table_form(HAND, inner, WANTED, thing), good)

    def test_errors(self):
        unsound = document_of_clauses(INSIDE, samples.one_place("k", "q", ()))
        for asking, rest in ((fit, ()), (is_fit_table, (None,))):
            for thing in ODD:
                with self.assertRaises(BadOuter):
                    asking(thing, None, None, *rest)
                if not plain.document_form(thing):
                    with self.assertRaises(BadDocument):
                        asking(HAND, thing, WANTED, *rest)
                    with self.assertRaises(BadOuter):
                        asking(thing, INNER, WANTED, *rest)
                    with self.assertRaises(BadDocument):
                        asking(HAND, QUARREL_DOC, thing, *rest)
            for inner, wanted in ((QUARREL_DOC, WANTED), (INNER, ASKED), (WANTED, INNER), (INNER, INNER), (unsound, ASKED),
                                  (INNER, document_of_clauses(("house", INSIDE[1] + OUTSIDE[1])))):
                with self.assertRaises(OtherHouse):
                    asking(HAND, inner, wanted, *rest)
            with self.assertRaises(Unsound):
                asking(HAND, unsound, WANTED, *rest)
        self.assertEqual(fit(wanted=WANTED, inner=INNER, outer=HAND)[0], "fit")
        self.assertFalse(is_fit_table(thing=(), wanted=WANTED, inner=INNER, outer=HAND))


class Weakest(unittest.TestCase):
    def test_all(self):
        sizes = {}
        for number, (outer, inner, wanted) in enumerate(cases(420)):
            said = weakest(outer, wanted)
            self.assertTrue(is_meaning(said))
            self.assertEqual(said[1], outer[2])
            sizes[len(said[2])] = sizes.get(len(said[2]), 0) + 1
            if said[2]:
                document = document_of(said, "said")
                self.assertEqual(meaning(document), said)
            for program in programs_of(outer[2], 7, number)[:50]:
                good = bool(said[2]) and plain.right(document, program)
                self.assertEqual(good, keeps_wanted(outer, wanted, program))
            # Fit exactly if inner holds only histories that this has.
            fits = fit(outer, inner, wanted)[0] == "fit"
            self.assertEqual(fits, bool(said[2]) and apart(inner, document) is None)
            for history in plain.histories(outer[2], 3):
                if said[2] and has(said, history):
                    self.assertTrue(all(has(said, history[:many]) for many in range(len(history))))
                elif plain.held(inner, history):
                    self.assertFalse(fits)
        self.assertTrue({0, 1, 2, 3} <= set(sizes), sizes)

    def test_three_states(self):
        for seed in range(40):
            outer = drawn_thing(seed, *HOUSES[0])
            wanted = ("document", joint(outer), drawn_clauses(seed, joint(outer), strictly=0.6))
            said = weakest(outer, wanted)
            for program in list(plain.programs(INSIDE, 3))[seed % 3::3]:
                good = bool(said[2]) and plain.right(document_of(said, "said"), program)
                self.assertEqual(good, keeps_wanted(outer, wanted, program))

    def test_by_hand(self):
        self.assertEqual(weakest(HAND, WANTED), meaning(INNER))
        self.assertEqual(weakest(HAND, document_of_clauses(JOINT)), meaning(document_of_clauses(INSIDE)))
        never = document_of_clauses(JOINT, ("clause", "z", ("z",), (("z", "q", ()),)))
        self.assertEqual(weakest(HAND, never), ("meaning", INSIDE, ()))

    def test_errors(self):
        for thing in ODD:
            with self.assertRaises(BadOuter):
                weakest(thing, None)
            with self.assertRaises(BadOuter):
                image(thing, None)
            if not plain.document_form(thing):
                for asking in (weakest, image):
                    with self.assertRaises(BadDocument):
                        asking(HAND, thing)
        for wanted in (ASKED, INNER, STORE_DOC, document_of_clauses(("house", INSIDE[1] + OUTSIDE[1]))):
            with self.assertRaises(OtherHouse):
                weakest(HAND, wanted)
        for inner in (ASKED, WANTED, QUARREL_DOC):
            with self.assertRaises(OtherHouse):
                image(HAND, inner)
        with self.assertRaises(Unsound):
            image(HAND, document_of_clauses(INSIDE, samples.one_place("k", "q", ())))
        self.assertEqual(weakest(wanted=WANTED, outer=HAND), meaning(INNER))
        self.assertEqual(image(inner=INNER, outer=HAND), meaning(ASKED))


class Images(unittest.TestCase):
    def makes(self, outer, inner, history):
        """Whether some inner answers, all safe, make the outer thing answer so."""
        free = document_of_clauses(joint(outer))
        here = {(0, plain.first_stand(inner))}
        for call, answer in history:
            behind = set()
            for wait, stand in here:
                for end in self.answered(outer, inner, free, wait, stand, call):
                    if end[0] == answer:
                        behind.add(end[1:])
            here = behind
        return bool(here)

    def answered(self, outer, inner, free, wait, stand, call):
        """The triples (answer, wait node, stand) of all that can become of a call."""
        found = []
        queue = [(outer[3][wait][1][plain.calls(outer[1]).index(call)], stand)]
        for at, here in queue:
            node = outer[3][at]
            if node[0] == "answer":
                found.append((node[1], node[2], here))
                continue
            for answer, to in zip(plain.answers_of(outer[2], node[1]), node[2]):
                behind = plain.stand_after(inner, here, node[1], answer)
                if is_safe(inner, behind):
                    queue.append((to, behind))
        return found

    def test_all(self):
        sizes = {}
        for number, (outer, inner, wanted) in enumerate(cases(260)):
            said = image(outer, inner)
            self.assertTrue(is_meaning(said))
            self.assertEqual(said[1], outer[1])
            sizes[len(said[2])] = sizes.get(len(said[2]), 0) + 1
            for history in plain.histories(outer[1], 3 if len(outer[1][1]) < 4 else 2):
                self.assertEqual(has(said, history), self.makes(outer, inner, history))
            document = document_of(said, "said")
            self.assertEqual(meaning(document), said)
            for program in programs_of(outer[2], 31, number)[:12]:
                if plain.right(inner, program):
                    self.assertTrue(plain.right(document, atop(outer, program)))
            # Of clauses of the house alone: fit exactly if they hold all histories of the image.
            rows = [row for clause in wanted[2] for row in clause[3]]
            if all(row[1] in plain.calls(outer[1]) for row in rows):
                asked = ("document", outer[1], wanted[2])
                self.assertEqual(fit(outer, inner, wanted)[0] == "fit", apart(document, asked) is None)
        self.assertTrue({1, 2, 3} <= set(sizes), sizes)

    def test_by_hand(self):
        self.assertEqual(image(HAND, INNER), meaning(ASKED))
        # Both answers are the one that the first inner call gave.
        house = ("house", (("call", "c", ("x", "y")), ("call", "d", ("x", "y"))))
        keeper = ("outer", house, INSIDE, (("wait", (3, 4)), ("wait", (5, 5)), ("wait", (6, 6)), ("inner", "q", (5, 6)),
                                           ("inner", "q", (5, 6)), ("answer", "x", 1), ("answer", "y", 2)))
        self.assertTrue(is_outer(keeper))
        said = image(keeper, document_of_clauses(INSIDE))
        self.assertEqual(len(said[2]), 3)
        unlike = ("program", house, ((("x", 1), ("y", 2)), (("x", 1), ("x", 1)), (("y", 2), ("y", 2))))
        self.assertTrue(plain.right(document_of(said, "said"), unlike))
        for program in plain.programs(INSIDE, 2):
            self.assertNotEqual(atop(keeper, program), normal(unlike))

    def test_thing_that_hands_everything_on(self):
        for seed in range(60):
            inner = ("document", TWO, drawn_clauses(seed, TWO))
            hands = ("outer", ("house", (("call", "e", ("x", "y")), ("call", "f", ("x", "y")))), TWO, (
                ("wait", (1, 2)), ("inner", "c", (3, 4)), ("inner", "d", (3, 4)), ("answer", "x", 0), ("answer", "y", 0)))
            if plain.sound(inner):
                self.assertEqual(image(hands, inner)[2], meaning(inner)[2])
                wanted = ("document", joint(hands), tuple(
                    clause[:3] + (tuple((p, {"c": "e", "d": "f"}[c], lets) for p, c, lets in clause[3]),)
                    for clause in inner[2]))
                self.assertEqual(weakest(hands, wanted), meaning(inner))


class Stacks(unittest.TestCase):
    def pairs(self, many):
        """Pairs of outer things, the inner house of the first being the house of the second."""
        middle = ("house", (("call", "m", ("x", "y")), ("call", "n", ("x", "y"))))
        base = ("house", (("call", "q", ("x", "y")), ("call", "r", ("x", "z"))))
        tops = (OUTSIDE, ("house", (("call", "c", ("no", "yes")), ("call", "d", ("no", "yes")))))
        for seed in range(many):
            yield drawn_thing(seed, tops[seed % 2], middle), drawn_thing(seed + 1000, middle, base)

    def test_all(self):
        for number, (outer, other) in enumerate(self.pairs(120)):
            thing = stacked(outer, other)
            self.assertTrue(is_outer(thing))
            self.assertEqual(thing[1:3], (outer[1], other[2]))
            for program in programs_of(other[2], 60, number)[:6]:
                middle = atop(other, program)
                self.assertEqual(atop(thing, program), atop(outer, middle))
                for word in plain.words(outer[1], 3):
                    # It makes the calls that the other one makes for the calls of the first one.
                    expect = ()
                    for call, answer in run_led(outer, middle, word):
                        if call in plain.calls(outer[1]):
                            expect += ((call, answer),)
                        else:
                            expect += (None,)
                    told = run_led(thing, program, word)
                    own = [pair for pair in told if pair[0] in plain.calls(outer[1])]
                    self.assertEqual(own, [pair for pair in expect if pair is not None])
                    asked = tuple(pair[0] for pair in run_led(outer, middle, word) if pair[0] in plain.calls(other[1]))
                    below = run_led(other, program, asked)
                    self.assertEqual([pair for pair in told if pair not in own],
                                     [pair for pair in below if pair[0] in plain.calls(other[2])])

    def test_images_and_weakest(self):
        count = 0
        for number, (outer, other) in enumerate(self.pairs(60)):
            thing = stacked(outer, other)
            inner = ("document", other[2], drawn_clauses(number, other[2]))
            if plain.sound(inner):
                between = document_of(image(other, inner), "between")
                self.assertEqual(image(thing, inner), image(outer, between))
                count += 1
            clauses = drawn_clauses(number * 5, outer[1])
            said = weakest(outer, ("document", joint(outer), clauses))
            whole = weakest(thing, ("document", joint(thing), clauses))
            if not said[2]:
                self.assertEqual(whole, ("meaning", other[2], ()))
            else:
                lower = ("document", joint(other), document_of(said, "between")[2])
                self.assertEqual(whole, weakest(other, lower))
        self.assertGreater(count, 20)

    def test_three(self):
        base = ("house", (("call", "a", ("x", "y")),))
        middle = ("house", (("call", "m", ("x", "y")), ("call", "n", ("x", "y"))))
        low = ("house", (("call", "q", ("x", "y")), ("call", "r", ("x", "z"))))
        for seed in range(40):
            one, two, three = drawn_thing(seed, OUTSIDE, middle), drawn_thing(seed + 7, middle, low), drawn_thing(seed + 9, low, base)
            left, right = stacked(stacked(one, two), three), stacked(one, stacked(two, three))
            for program in programs_of(base):
                self.assertEqual(atop(left, program), atop(right, program))
                self.assertEqual(atop(left, program), atop(one, atop(two, atop(three, program))))

    def test_nodes_that_wait_elsewhere(self):
        # The other thing waits in turn at two nodes, whatever the first one does.
        other = ("outer", ("house", (("call", "m", ("x", "y")),)), INSIDE, (
            ("wait", (2,)), ("wait", (3,)), ("answer", "x", 1), ("inner", "q", (4, 5)), ("answer", "x", 0), ("answer", "y", 0)))
        top = outer_of_all(other[1], "c")
        thing = stacked(top, other)
        self.assertTrue(is_outer(thing))
        program = ring(INSIDE, 2, (0,))
        self.assertEqual(run_led(thing, program, ("c",) * 4),
                         (("c", "x"), ("q", "y"), ("c", "y"), ("c", "x"), ("q", "x"), ("c", "x")))

    def test_errors(self):
        top = outer_of_all(OUTSIDE, "e")
        for thing in ODD:
            for other in (None, HAND, top):
                with self.assertRaises(BadOuter):
                    stacked(thing, other)
            with self.assertRaises(BadOuter):
                stacked(HAND, thing)
        for outer, other in ((HAND, HAND), (HAND, top), (HAND, outer_of_all(ONE, "w"))):
            with self.assertRaises(OtherHouse):
                stacked(outer, other)
        self.assertTrue(is_outer(stacked(other=HAND, outer=top)))


if __name__ == "__main__":
    unittest.main()
