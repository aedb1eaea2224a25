"""runs: runs of laws over programs [41]; overs: sites and tables over programs [42]."""

import unittest
from itertools import product

from saidandasked.errors import BadLaw, BadProgram, BadScript, OtherHouse
from saidandasked.overs import is_table, over
from saidandasked.runs import asked, run
from tests import plain, samples
from tests.samples import COPIES, ENDLESS, MADE, ODD, ONE, STORE, STORE_DOC, TAKES, TURNED, TWO, WIDE, bent, ring


def behind(program, rule, site):
    """The sites behind a site, and the triple that is asked there, or None."""
    node = rule[3][site[0]]
    states = list(site[1])
    if node[0] == "ask":
        at = plain.calls(program[1]).index(node[2])
        answer, states[node[1]] = program[2][states[node[1]]][at]
        step = node[3][program[1][1][at][2].index(answer)]
        return [(step, tuple(states))], (node[1], node[2], answer)
    if node[0] == "copy":
        states[node[1]] = states[node[2]]
        return [(node[3], tuple(states))], None
    if node[0] == "draw":
        return [(step, site[1]) for step in node[1]], None
    return [], None


def walk(program, rule, script):
    """What run and asked tell, by keeping each configuration whole."""
    script = list(script)
    while script and script[-1] == 0:
        script.pop()
    site = (0, (0,) * rule[2])
    seen = {}
    asks = []
    left = tuple(script)
    steps = 0
    while True:
        if rule[3][site[0]][0] in ("true", "false"):
            return (rule[3][site[0]][0], steps), tuple(asks)
        if (site, left) in seen:
            ahead = seen[(site, left)]
            return ("never", ahead, steps - ahead), tuple(asks)
        seen[(site, left)] = steps
        there, triple = behind(program, rule, site)
        if triple is not None:
            asks.append(triple)
        number = 0
        if rule[3][site[0]][0] == "draw" and left:
            number, left = left[0], left[1:]
        site = there[number % len(there)]
        steps += 1


def coming(program, rule):
    """All sites that come from the first one, with the fewest steps to each."""
    found = {(0, (0,) * rule[2]): 0}
    queue = list(found)
    for site in queue:
        for there in behind(program, rule, site)[0]:
            if there not in found:
                found[there] = found[site] + 1
                queue.append(there)
    return found


def table_of(program, rule, thing):
    """is_table by its words."""
    if not isinstance(thing, tuple):
        return False
    ranks = {}
    for row in thing:
        if not isinstance(row, tuple) or len(row) != 3 or not plain.number(row[0]) or not plain.number(row[2]):
            return False
        if not 0 <= row[0] < len(rule[3]) or row[2] < 0 or rule[3][row[0]] == ("false",):
            return False
        if not isinstance(row[1], tuple) or len(row[1]) != rule[2]:
            return False
        if not all(plain.number(state) and 0 <= state < len(program[2]) for state in row[1]):
            return False
        if row[:2] in ranks:
            return False
        ranks[row[:2]] = row[2]
    if (0, (0,) * rule[2]) not in ranks:
        return False
    for site, rank in ranks.items():
        there = behind(program, rule, site)[0]
        if any(s not in ranks for s in there) or there and ranks[there[0]] >= rank:
            return False
    return True


def cases(many):
    for seed in range(many):
        house = (ONE, TWO, WIDE, STORE)[seed % 4]
        objects = 1 + seed % 3
        size = 1 + seed % 9
        yield samples.drawn_program(seed, house, 1 + seed % 4), samples.drawn_law(seed, house, objects, size)


SCRIPTS = [(), (0,), (0, 0, 0), (1,), (-1,), (1, 1, 1), (2, 1), (0, 1), (0, 0, 5), (1, 0), (7, -3, 999999999, -999999999),
           (3,) * 100, (0,) * 99 + (1,), (-2, 0, 0, 4, 0)]


class Runs(unittest.TestCase):
    def test_by_hand(self):
        self.assertEqual(run(MADE, TAKES, ()), ("true", 2))
        self.assertEqual(asked(MADE, TAKES, ()), ((0, "put", "ok"), (0, "take", "ok")))
        self.assertEqual(run(MADE, ENDLESS, ()), ("never", 0, 1))
        self.assertEqual(asked(MADE, ENDLESS, ()), ((0, "take", "none"),))
        self.assertEqual(run(ring(STORE, 5, ()), ENDLESS, ()), ("never", 0, 5))
        self.assertEqual(run(MADE, COPIES, ()), ("true", 5))
        self.assertEqual(asked(MADE, COPIES, ())[2:], ((0, "take", "ok"), (1, "take", "ok")))
        for end in ("true", "false"):
            self.assertEqual(run(MADE, ("law", STORE, 1, ((end,),)), (1, 2)), (end, 0))
            self.assertEqual(asked(MADE, ("law", STORE, 3, ((end,),)), ()), ())

    def test_draws(self):
        rule = ("law", ONE, 1, (("draw", (1, 2, 0)), ("true",), ("false",)))
        program = ring(ONE, 1, ())
        told = {(): ("true", 1), (0,): ("true", 1), (1,): ("false", 1), (2,): ("true", 2), (2, 1): ("false", 2),
                (-1,): ("true", 2), (-2,): ("false", 1), (3,): ("true", 1), (5, 5, 4): ("false", 3),
                (2, 2, 2): ("true", 4), (-1, -1, 7, 9): ("false", 3), (2, 0, 1): ("true", 2)}
        for script, end in told.items():
            self.assertEqual(run(program, rule, script), end, script)

    def test_numbers_left_are_part_of_a_configuration(self):
        rule = ("law", ONE, 1, (("draw", (0, 0)),))
        program = ring(ONE, 1, ())
        self.assertEqual(run(program, rule, ()), ("never", 0, 1))
        self.assertEqual(run(program, rule, (0, 0)), ("never", 0, 1))
        self.assertEqual(run(program, rule, (0, 0, 1, 0)), ("never", 3, 1))
        self.assertEqual(run(program, rule, (1,) * 100), ("never", 100, 1))
        two = ("law", ONE, 1, (("ask", 0, "c", (1, 1)), ("draw", (0, 2)), ("ask", 0, "c", (2, 2))))
        self.assertEqual(run(ring(ONE, 3, ()), two, (0, 1)), ("never", 4, 3))
        self.assertEqual(len(asked(ring(ONE, 3, ()), two, (0, 1))), 5)
        self.assertEqual(run(ring(ONE, 3, ()), two, ()), ("never", 0, 6))
        # A turn within the numbers that are still left.
        three = ("law", ONE, 1, (("draw", (1, 1)), ("ask", 0, "c", (1, 1))))
        self.assertEqual(run(ring(ONE, 4, ()), three, (0, 3)), ("never", 1, 4))

    def test_objects(self):
        rule = ("law", ONE, 3, (("ask", 0, "c", (1, 1)), ("ask", 1, "c", (2, 2)), ("copy", 2, 0, 3), ("ask", 0, "c", (4, 4)),
                                ("ask", 2, "c", (5, 5)), ("copy", 1, 2, 6), ("ask", 1, "c", (7, 8)), ("true",), ("false",)))
        program = ring(ONE, 3, (2,))
        self.assertEqual(asked(program, rule, ()), (
            (0, "c", "x"), (1, "c", "x"), (0, "c", "x"), (2, "c", "x"), (1, "c", "y")))
        self.assertEqual(run(program, rule, ()), ("false", 7))

    def test_plain_walk(self):
        for program, rule in cases(400):
            for script in SCRIPTS:
                end, asks = walk(program, rule, script)
                self.assertEqual(run(program, rule, script), end)
                self.assertEqual(asked(program, rule, script), asks)

    def test_greatest(self):
        nodes = tuple(("ask", 0, "c", ((at + 1) % 250,) * 2) for at in range(250))
        rule = ("law", ONE, 1, nodes)
        self.assertEqual(run(ring(ONE, 399, ()), rule, (5,) * 100), ("never", 0, 250 * 399))
        nodes = tuple(("ask", at % 3, "c", (at + 1,) * 2) for at in range(249)) + (("true",),)
        self.assertEqual(run(ring(ONE, 400, ()), ("law", ONE, 3, nodes), ()), ("true", 249))

    def test_errors(self):
        for asking in (run, asked):
            for thing in ODD + [STORE_DOC]:
                for rule, script in ((TAKES, ()), (None, None)):
                    with self.assertRaises(BadProgram):
                        asking(thing, rule, script)
            for thing in ODD + [MADE]:
                for script in ((), None):
                    with self.assertRaises(BadLaw):
                        asking(MADE, thing, script)
            other = ("law", ONE, 1, (("true",),))
            for script in ODD + [[0], (True,), (0, False), ("0",), (None,), (1, (2,)), "01", {0: 1}, range(2)]:
                if not isinstance(script, tuple) or not all(plain.number(part) for part in script):
                    for rule in (TAKES, other):
                        with self.assertRaises(BadScript):
                            asking(MADE, rule, script)
            with self.assertRaises(OtherHouse):
                asking(MADE, other, ())
            with self.assertRaises(OtherHouse):
                asking(ring(TWO, 1, ()), ("law", TURNED, 1, (("true",),)), ())
        self.assertEqual(run(script=(), rule=TAKES, program=MADE), ("true", 2))
        self.assertEqual(len(asked(script=(), rule=TAKES, program=MADE)), 2)


class Overs(unittest.TestCase):
    def check(self, program, rule):
        told = over(program, rule)
        found = coming(program, rule)
        false = [found[site] for site in found if rule[3][site[0]] == ("false",)]
        if false:
            self.assertEqual((told[0], len(told)), ("falls", 2))
            self.assertEqual(run(program, rule, told[1]), ("false", min(false)))
            return told[0]
        endless = any(self.goes_on(program, rule, site) for site in found)
        if endless:
            self.assertEqual((told[0], len(told)), ("never", 2))
            self.assertEqual(run(program, rule, told[1])[0], "never")
            return told[0]
        self.assertEqual((told[0], len(told)), ("true", 2))
        rows = sorted((site[0], site[1], self.zeros(program, rule, site)) for site in found)
        self.assertEqual(told[1], tuple(rows))
        self.assertTrue(table_of(program, rule, told[1]))
        self.assertIs(is_table(program, rule, told[1]), True)
        return told[0]

    def goes_on(self, program, rule, site):
        seen = set()
        while behind(program, rule, site)[0]:
            if site in seen:
                return True
            seen.add(site)
            site = behind(program, rule, site)[0][0]
        return False

    def zeros(self, program, rule, site):
        """How many steps there are to the end if zeros are drawn."""
        steps = 0
        while behind(program, rule, site)[0]:
            site = behind(program, rule, site)[0][0]
            steps += 1
        return steps

    def test_by_hand(self):
        self.assertEqual(over(MADE, TAKES), ("true", ((0, (0,), 2), (1, (1,), 1), (2, (1,), 0))))
        self.assertEqual(self.check(MADE, ENDLESS), "never")
        self.assertEqual(over(MADE, COPIES), ("true", (
            (0, (0, 0), 5), (1, (1, 0), 4), (2, (1, 0), 3), (3, (1, 1), 2), (4, (1, 1), 1), (6, (1, 1), 0))))
        again = TAKES[:3] + (TAKES[3][:2] + (("ask", 0, "take", (4, 3)), ("false",), ("true",)),)
        self.assertEqual(over(MADE, again)[0], "true")
        empties = ("program", STORE, ((("ok", 1), ("none", 0)), (("ok", 1), ("ok", 0))))
        self.assertEqual(self.check(empties, again), "falls")
        self.assertEqual(run(empties, again, over(empties, again)[1]), ("false", 3))

    def test_all(self):
        seen = {"falls": 0, "never": 0, "true": 0}
        for program, rule in cases(700):
            seen[self.check(program, rule)] += 1
        self.assertTrue(min(seen.values()) > 40, seen)

    def test_draws_that_turn(self):
        program = ring(ONE, 1, ())
        # To go round again and again by other draws than the first is no run: a script ends.
        rule = ("law", ONE, 1, (("draw", (1, 0)), ("true",)))
        self.assertEqual(over(program, rule), ("true", ((0, (0,), 1), (1, (0,), 0))))
        self.assertEqual(self.check(program, ("law", ONE, 1, (("draw", (0, 1)), ("true",)))), "never")
        # What falls goes ahead of what never ends; what never ends may want a script.
        self.assertEqual(self.check(program, ("law", ONE, 1, (("draw", (0, 1)), ("false",)))), "falls")
        rule = ("law", ONE, 1, (("draw", (1, 2)), ("true",), ("draw", (0, 0, 3)), ("ask", 0, "c", (3, 3))))
        self.assertEqual(self.check(program, rule), "never")
        self.assertEqual(run(program, rule, ())[0], "true")

    def test_fewest_steps(self):
        program = ring(ONE, 1, ())
        nodes = (("draw", (1, 2)), ("ask", 0, "c", (3, 3)), ("draw", (1, 1, 1, 4)), ("ask", 0, "c", (4, 4)), ("false",))
        told = over(program, ("law", ONE, 1, nodes))
        self.assertEqual(run(program, ("law", ONE, 1, nodes), told[1]), ("false", 2))

    def test_greatest(self):
        nodes = tuple(("ask", 0, "c", ((at + 1) % 250,) * 2) for at in range(249))
        rule = ("law", ONE, 1, nodes + (("ask", 0, "c", (0, 250)), ("true",)))
        program = ring(ONE, 399, (200,))
        told = over(program, rule)
        self.assertEqual(told[0], "true")
        self.assertEqual(max(row[2] for row in told[1]), len(told[1]) - 1)
        self.assertTrue(is_table(program, rule, told[1]))
        told = over(ring(ONE, 399, ()), rule)
        self.assertEqual((told[0], run(ring(ONE, 399, ()), rule, told[1])[0]), ("never", "never"))

    def test_tables(self):
        for program, rule in cases(60):
            told = over(program, rule)
            if told[0] != "true":
                for thing in ((), ((0, (0,) * rule[2], 0),)):
                    self.assertIs(is_table(program, rule, thing), table_of(program, rule, thing))
                continue
            table = told[1]
            self.assertTrue(is_table(program, rule, table[::-1]))
            higher = tuple((node, at, rank * 2 + 3) for node, at, rank in table)
            self.assertTrue(is_table(program, rule, higher))
            for at in range(len(table)):
                self.assertFalse(is_table(program, rule, table[:at] + table[at + 1:]))
                self.assertFalse(is_table(program, rule, table + (table[at],)))
                self.assertFalse(is_table(program, rule, table + (table[at][:2] + (99,),)))
                lower = table[:at] + (table[at][:2] + (table[at][2] - 1,),) + table[at + 1:]
                self.assertFalse(is_table(program, rule, lower))
                up = table[:at] + (table[at][:2] + (table[at][2] + 1,),) + table[at + 1:]
                self.assertIs(is_table(program, rule, up), table_of(program, rule, up))

    def test_bent_tables(self):
        for program, rule in ((MADE, TAKES), (MADE, COPIES), (MADE, ENDLESS)):
            told = over(program, rule)[1]
            for thing in list(bent(told)) + ODD:
                self.assertIs(is_table(program, rule, thing), table_of(program, rule, thing), thing)

    def test_more_sites(self):
        # A table may have sites that do not come, and false nodes are in none.
        table = over(MADE, TAKES)[1]
        for node, state, rank in product(range(4), range(2), range(4)):
            thing = table + ((node, (state,), rank),)
            self.assertIs(is_table(MADE, TAKES, thing), table_of(MADE, TAKES, thing), thing)
        self.assertTrue(is_table(MADE, TAKES, table + ((2, (0,), 5),)))
        self.assertFalse(is_table(MADE, TAKES, table + ((3, (0,), 5),)))
        # Behind other nexts of a draw any ranks will do, but they must be there.
        rule = ("law", STORE, 1, (("draw", (1, 0)), ("true",)))
        self.assertTrue(is_table(MADE, rule, ((0, (0,), 1), (1, (0,), 0))))
        rule = ("law", STORE, 1, (("draw", (1, 2)), ("true",), ("draw", (1,))))
        self.assertTrue(is_table(MADE, rule, ((0, (0,), 1), (1, (0,), 0), (2, (0,), 9))))
        self.assertFalse(is_table(MADE, rule, ((0, (0,), 1), (1, (0,), 0))))
        self.assertFalse(is_table(MADE, rule, ((0, (0,), 0), (1, (0,), 0), (2, (0,), 9))))

    def test_errors(self):
        for asking, rest in ((over, ()), (is_table, (None,))):
            for thing in ODD + [STORE_DOC]:
                for rule in (TAKES, None):
                    with self.assertRaises(BadProgram):
                        asking(thing, rule, *rest)
            for thing in ODD + [MADE]:
                with self.assertRaises(BadLaw):
                    asking(MADE, thing, *rest)
            for house, other in ((TWO, TURNED), (ONE, STORE)):
                with self.assertRaises(OtherHouse):
                    asking(ring(house, 1, ()), ("law", other, 1, (("true",),)), *rest)
        self.assertEqual(over(rule=TAKES, program=MADE)[0], "true")
        self.assertFalse(is_table(thing=(), rule=TAKES, program=MADE))


if __name__ == "__main__":
    unittest.main()
