"""builders: things that are built, and bars [106]; the example of [107]."""

import random
import unittest
from itertools import product

from saidandasked.atop import atop
from saidandasked.builders import are_bars, built
from saidandasked.errors import BadDocument, OtherHouse, Unsound
from saidandasked.fits import fit, is_fit_table
from saidandasked.makers import made
from saidandasked.narrow import apart
from saidandasked.outers import is_outer
from tests import plain, samples
from tests.samples import ODD, QUARREL_DOC, bent, one_place
from tests.test_atop import (ASKED_CLAUSE, INNER, INSIDE, JOINT, OUTSIDE, WANTED, calls_to_fall, drawn_clauses, is_safe)
from tests.test_covers import document_of_clauses

INNERS = (INSIDE, ("house", (("call", "q", ("x", "y")), ("call", "r", ("x", "z")))), ("house", (("call", "q", ("x",)),)))
OUTERS = (OUTSIDE, ("house", (("call", "c", ("no", "yes")), ("call", "d", ("no", "yes")))), ("house", (("call", "c", ("yes",)),)))

SILENT = ("clause", "z", ("z",), (("z", "q", ()),))
ASKS_FIRST = ("clause", "o", ("o", "p"), (("o", "c", ()), ("o", "q", (("x", "p"), ("y", "p")))))


def cases(many, first=0):
    for seed in range(first, first + many):
        house, inside = OUTERS[seed % 3], INNERS[(seed // 3) % 3]
        inner = ("document", inside, drawn_clauses(seed * 3, inside, "k"))
        joint = ("house", house[1] + inside[1])
        clauses = list(drawn_clauses(seed * 7 + 1, joint, strictly=(0.4, 0.6, 0.8)[seed % 3]))
        if seed % 2:
            # The answers must tell what inner calls gave.
            call, answers = house[1][0][1:]
            asked = inside[1][seed % len(inside[1])]
            leads = tuple((answer, ("a", "b")[at % 2]) for at, answer in enumerate(asked[2]))
            rows = tuple((place, name, lets) for place in "ab" for name, lets in (
                (call, ((answers[-1 if place == "b" else 0], place),)), (asked[1], leads)))
            clauses.append(("clause", "tells", ("a", "b"), rows))
        if seed % 4 < 2:
            # Ahead of each answer there must be an inner call.
            (_, call, answers), asked = house[1][0], inside[1][0]
            clauses[1:2] = [("clause", "asks", ("o", "p"), (
                ("o", call, ()), ("o", asked[1], tuple((answer, "p") for answer in asked[2])),
                ("p", call, tuple((answer, "o") for answer in answers))))]
        wanted = ("document", joint, tuple(clauses))
        if plain.sound(inner):
            yield inner, wanted


def outer_calls(inner, wanted):
    return ("house", wanted[1][1][:len(wanted[1][1]) - len(inner[1][1])])


def stand_form(document, x):
    if not isinstance(x, tuple) or len(x) != len(document[2]):
        return False
    for clause, lot in zip(document[2], x):
        if not isinstance(lot, tuple) or not lot or not all(isinstance(place, str) and place in clause[2] for place in lot):
            return False
        if not plain.ascending([clause[2].index(place) for place in lot]):
            return False
    return True


def pair_form(inner, wanted, x):
    if not isinstance(x, tuple) or len(x) != 2:
        return False
    return stand_form(inner, x[0]) and is_safe(inner, x[0]) and stand_form(wanted, x[1])


def bars_form(inner, wanted, thing):
    """are_bars by its words."""
    if not isinstance(thing, tuple):
        return False
    house, earlier = outer_calls(inner, wanted), []
    for bar in thing:
        if not isinstance(bar, tuple) or len(bar) != 4 or not pair_form(inner, wanted, bar[:2]):
            return False
        if not isinstance(bar[2], str) or bar[2] not in plain.calls(house) or not isinstance(bar[3], tuple):
            return False
        if not all(pair_form(inner, wanted, pair) for pair in bar[3]) or len(set(bar[3])) < len(bar[3]):
            return False
        if not bar[3] or bar[3][0] != bar[:2]:
            return False
        for here, there in bar[3]:
            for answer in plain.answers_of(house, bar[2]):
                goal = plain.stand_after(wanted, there, bar[2], answer)
                if () not in goal and (here, goal) not in earlier:
                    return False
            for call in plain.calls(inner[1]):
                good = False
                for answer in plain.answers_of(inner[1], call):
                    to, goal = plain.stand_after(inner, here, call, answer), plain.stand_after(wanted, there, call, answer)
                    good = good or is_safe(inner, to) and (() in goal or (to, goal) in bar[3])
                if not good:
                    return False
        earlier.append(bar[:2])
    return (plain.first_stand(inner), plain.first_stand(wanted)) in earlier


def can_be_built(inner, wanted):
    """Whether something can be built: pairs at which one can wait are parted again and again."""
    house = outer_calls(inner, wanted)
    met = [(plain.first_stand(inner), plain.first_stand(wanted))]
    inside, outside = {}, {}
    for pair in met:
        here, there = pair
        inside[pair] = {}
        for call in plain.calls(inner[1]):
            inside[pair][call] = []
            for answer in plain.answers_of(inner[1], call):
                to = plain.stand_after(inner, here, call, answer)
                if is_safe(inner, to):
                    goal = plain.stand_after(wanted, there, call, answer)
                    inside[pair][call].append(None if () in goal else (to, goal))
        outside[pair] = {}
        for call in plain.calls(house):
            goals = [plain.stand_after(wanted, there, call, answer) for answer in plain.answers_of(house, call)]
            outside[pair][call] = [(here, goal) for goal in goals if () not in goal]
        for goal in [goal for goals in inside[pair].values() for goal in goals] + [
                goal for goals in outside[pair].values() for goal in goals]:
            if goal is not None and goal not in met:
                met.append(goal)
    waiting = set(met)
    while True:
        left = set(waiting)
        for call in plain.calls(house):
            plan = {pair for pair in met if any(goal in waiting for goal in outside[pair][call])}
            while True:
                more = {pair for pair in met if any(all(goal in plan for goal in goals) for goals in inside[pair].values())}
                if more <= plan:
                    break
                plan |= more
            left &= plan
        if left == waiting:
            return met[0] in waiting
        waiting = left


def small_things(house, inner):
    """All outer things of one or two wait nodes, at most one inner node for each call, and then an answer."""
    for waits in (1, 2):
        ways = []
        for call in house[1]:
            answers = list(product(call[2], range(waits)))
            of_call = [((), (answer,)) for answer in answers]
            for asked in inner[1]:
                of_call += [((asked[1],), told) for told in product(answers, repeat=len(asked[2]))]
            ways.append(of_call)
        for chosen in product(list(product(*ways)), repeat=waits):
            nodes, later, nexts = [None] * waits, [], []
            for at, told in enumerate(chosen):
                steps = []
                for asked, answers in told:
                    start = waits + len(later)
                    steps.append(start)
                    if asked:
                        later.append(("inner", asked[0], tuple(start + 1 + k for k in range(len(answers)))))
                    later += [("answer",) + answer for answer in answers]
                nodes[at] = ("wait", tuple(steps))
            yield ("outer", house, inner, tuple(nodes + later))


class Builders(unittest.TestCase):
    def check(self, inner, wanted):
        told = built(inner, wanted)
        self.assertEqual(len(told), 2)
        self.assertEqual(told[0], "built" if can_be_built(inner, wanted) else "barred")
        if told[0] == "built":
            outer = told[1]
            self.assertTrue(is_outer(outer))
            self.assertEqual(outer[1:3], (outer_calls(inner, wanted), inner[1]))
            many, met = calls_to_fall(outer, inner, wanted)
            self.assertIsNone(many)
            self.assertTrue(is_fit_table(outer, inner, wanted, tuple(met)))
            self.assertIs(are_bars(inner, wanted, ()), False)
        else:
            self.assertTrue(bars_form(inner, wanted, told[1]))
            self.assertIs(are_bars(inner, wanted, told[1]), True)
        self.assertEqual(built(inner, wanted), told)
        return told

    def test_all(self):
        seen = {"built": 0, "barred": 0}
        longest = asked = 0
        for inner, wanted in cases(600):
            told = self.check(inner, wanted)
            seen[told[0]] += 1
            if told[0] == "barred":
                longest = max([longest] + [len(bar[3]) for bar in told[1]])
            else:
                asked += any(node[0] == "inner" for node in told[1][3])
        self.assertGreater(min(seen.values()), 60, seen)
        self.assertGreater(longest, 1)
        self.assertGreater(asked, 30)

    def test_small_things(self):
        # Where bars are told no small thing is fit.
        count = 0
        for inner, wanted in cases(260):
            house = outer_calls(inner, wanted)
            if built(inner, wanted)[0] == "barred" and len(house[1]) == 1:
                for outer in list(small_things(house, inner[1]))[::5]:
                    self.assertTrue(is_outer(outer))
                    self.assertIsNotNone(calls_to_fall(outer, inner, wanted)[0])
                    count += 1
        self.assertGreater(count, 500)

    def test_by_hand(self):
        told = self.check(INNER, WANTED)
        self.assertEqual(told[0], "built")
        told = self.check(INNER, document_of_clauses(JOINT, ASKED_CLAUSE, SILENT))
        self.assertFalse(any(node[0] == "inner" for node in told[1][3]))
        told = self.check(INNER, document_of_clauses(JOINT, ASKED_CLAUSE, SILENT, ASKS_FIRST))
        first = ((("s",),), (("n",), ("z",), ("o",)))
        self.assertEqual(told, ("barred", (first + ("c", (first,)),)))
        told = self.check(INNER, document_of_clauses(JOINT, ASKED_CLAUSE, ASKS_FIRST))
        self.assertTrue(any(node[0] == "inner" for node in told[1][3]))

    def test_traps_of_several_pairs(self):
        # yes is let only behind an x, but q can always answer y; and of two places one leads to the other.
        waits = ("clause", "w", ("u", "v", "w"), (
            ("u", "c", ()), ("u", "q", (("x", "w"), ("y", "v"))), ("v", "c", ()), ("v", "q", (("x", "w"), ("y", "u")))))
        inner = document_of_clauses(INSIDE)
        told = self.check(inner, document_of_clauses(JOINT, waits))
        self.assertEqual(told[0], "barred")
        self.assertEqual(len(told[1][-1][3]), 2)
        # If x must come behind a y, it can be built.
        fair = document_of_clauses(INSIDE, ("clause", "i", ("s", "t"), (("s", "q", (("x", "s"), ("y", "t"))), ("t", "q", (("x", "s"),)))))
        told = self.check(fair, document_of_clauses(JOINT, waits))
        self.assertEqual(told[0], "built")
        self.assertGreaterEqual(sum(node[0] == "inner" for node in told[1][3]), 2)

    def test_bars_behind_bars(self):
        # The second call of c breaks, whatever the first one answers, so the first one is barred as well.
        counts = ("clause", "k", ("s", "t", "u"), (("s", "c", (("no", "t"), ("yes", "t"))), ("t", "c", (("no", "u"), ("yes", "u"))),
                                                   ("u", "c", ())))
        told = self.check(INNER, document_of_clauses(JOINT, counts, SILENT))
        self.assertEqual(len(told[1]), 3)
        self.assertFalse(are_bars(INNER, document_of_clauses(JOINT, counts, SILENT), told[1][::-1]))
        self.assertFalse(are_bars(INNER, document_of_clauses(JOINT, counts, SILENT), told[1][1:]))
        self.assertTrue(are_bars(INNER, document_of_clauses(JOINT, counts, SILENT), told[1] + told[1]))

    def test_narrower_and_wider(self):
        count = 0
        for number, (inner, wanted) in enumerate(cases(160)):
            told = built(inner, wanted)
            more = ("document", inner[1], inner[2] + (("clause", "more") + drawn_clauses(number, inner[1], "k")[0][2:],))
            less = ("document", wanted[1], wanted[2][:-1])
            if told[0] == "built":
                if plain.sound(more) and apart(more, inner) is None:
                    count += 1
                    self.assertEqual(fit(told[1], more, wanted)[0], "fit")
                self.assertEqual(fit(told[1], inner, less)[0], "fit")
                self.assertEqual(built(inner, less)[0], "built")
        self.assertGreater(count, 20)

    def test_clauses_of_the_outer_calls_alone(self):
        seen = [0, 0]
        for seed in range(120):
            house = OUTERS[seed % 3]
            clauses = drawn_clauses(seed, house, strictly=0.9)
            wanted = ("document", ("house", house[1] + INSIDE[1]), clauses)
            good = plain.sound(("document", house, clauses))
            self.assertEqual(built(INNER, wanted)[0], "built" if good else "barred")
            seen[good] += 1
        self.assertGreater(min(seen), 8)

    def test_over_programs(self):
        for inner, wanted in cases(60):
            told = built(inner, wanted)
            if told[0] == "built":
                program = atop(told[1], made(inner))
                own = ("document", program[1], tuple(
                    clause for clause in wanted[2] if all(row[1] in plain.calls(program[1]) for row in clause[3])))
                self.assertTrue(plain.right(own, program))

    def test_many_pairs(self):
        places = tuple(samples.free(20))
        rows = tuple((place, "q", tuple((answer, places[(at + 1) % 20]) for answer in "xy")) for at, place in enumerate(places))
        inner = document_of_clauses(INSIDE, ("clause", "i", places, rows))
        outside = ("house", tuple(("call", name, ("no", "yes")) for name in "cdef"))
        turns = ("clause", "k", ("s", "t"), (("s", "c", (("no", "t"),)), ("s", "d", (("no", "t"),)), ("t", "c", (("yes", "s"),)),
                                              ("t", "d", (("yes", "s"),))))
        asks = ("clause", "l", ("s", "t"), (("s", "c", ()), ("s", "d", ()), ("s", "e", ()), ("s", "f", ()),
                                            ("s", "q", (("x", "t"), ("y", "t"))), ("t", "c", (("no", "s"), ("yes", "s"))),
                                            ("t", "d", (("no", "s"), ("yes", "s"))), ("t", "e", (("no", "s"), ("yes", "s"))),
                                            ("t", "f", (("no", "s"), ("yes", "s")))))
        wanted = document_of_clauses(("house", outside[1] + INSIDE[1]), turns, asks)
        told = self.check(inner, wanted)
        self.assertEqual(told[0], "built")
        self.assertLessEqual(len(told[1][3]), 400)

    def test_stands_that_do_not_come(self):
        # Bars may tell of places to which nothing leads.
        inner = document_of_clauses(INSIDE, ("clause", "i", ("s", "u", "v"), (
            ("s", "q", (("x", "s"), ("y", "s"))), ("u", "q", (("x", "v"),)), ("v", "q", (("x", "u"), ("y", "u"))))))
        wanted = document_of_clauses(JOINT, ("clause", "k", ("n", "m"), (("n", "c", ()), ("m", "c", (("no", "m"),)))))
        first, here, there = ((("s",),), (("n",),)), ((("u",),), (("n",),)), ((("v",),), (("n",),))
        both, elsewhere = ((("u", "v"),), (("n",),)), ((("s",),), (("m",),))
        bars = (first + ("c", (first,)),)
        more = [here + ("c", (here, there)), there + ("c", (there, here)), here + ("c", (here,)), both + ("c", (both,)),
                elsewhere + ("c", (elsewhere,)), first + ("c", (first, here, there)), first + ("q", (first,)),
                here + ("c", (there, here)), here + ("c", (here, there, here)), ((("s",),), ((),), "c", (first,)),
                (((),), (("n",),), "c", (first,)), here + ("c", (here, there, both)), first + ("c", ())]
        seen = [0, 0]
        for bar in more:
            for thing in (bars + (bar,), (bar,) + bars, (bar,), bars + (bar, bar)):
                good = bars_form(inner, wanted, thing)
                self.assertIs(are_bars(inner, wanted, thing), good, thing)
                seen[good] += 1
        self.assertGreater(min(seen), 10)

    def test_bent_bars(self):
        count = 0
        for inner, wanted in list(cases(220)) + [(INNER, document_of_clauses(JOINT, ASKED_CLAUSE, SILENT, ASKS_FIRST))]:
            told = built(inner, wanted)
            if told[0] == "barred":
                count += 1
                things = list(bent(told[1]))
                draw = random.Random(count)
                for thing in draw.sample(things, min(100, len(things))) + ODD:
                    self.assertIs(are_bars(inner, wanted, thing), bars_form(inner, wanted, thing), thing)
            else:
                first = (plain.first_stand(inner), plain.first_stand(wanted))
                for thing in (ODD if count < 9 else []) + [(first + (call, (first,)),) for call in plain.calls(wanted[1])]:
                    self.assertIs(are_bars(inner, wanted, thing), bars_form(inner, wanted, thing), thing)
        self.assertGreater(count, 20)

    def test_errors(self):
        unsound = document_of_clauses(INSIDE, one_place("k", "q", ()))
        turned = document_of_clauses(("house", INSIDE[1] + OUTSIDE[1]))
        two = INNERS[1]
        for asking, rest in ((built, ()), (are_bars, (None,))):
            for thing in ODD:
                if not plain.document_form(thing):
                    for other in (None, WANTED):
                        with self.assertRaises(BadDocument):
                            asking(thing, other, *rest)
                    with self.assertRaises(BadDocument):
                        asking(QUARREL_DOC, thing, *rest)
            for inner, wanted in ((INNER, INNER), (INNER, turned), (unsound, turned), (INNER, document_of_clauses(OUTSIDE)),
                                  (document_of_clauses(two), WANTED), (WANTED, INNER), (WANTED, WANTED),
                                  (document_of_clauses(two), document_of_clauses(("house", OUTSIDE[1] + two[1][::-1])))):
                with self.assertRaises(OtherHouse):
                    asking(inner, wanted, *rest)
            with self.assertRaises(Unsound):
                asking(unsound, WANTED, *rest)
        self.assertEqual(built(wanted=WANTED, inner=INNER)[0], "built")
        self.assertFalse(are_bars(thing=(), wanted=WANTED, inner=INNER))


if __name__ == "__main__":
    unittest.main()
