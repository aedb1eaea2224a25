"""normals: programs with the fewest states, side by side [31]; rights: right programs [32]."""

import unittest
from itertools import product

from saidandasked.errors import BadDocument, BadProgram, OtherHouse, Parted
from saidandasked.leads import broken_at
from saidandasked.normals import is_likeness, likeness, normal, parting
from saidandasked.programs import history, is_program
from saidandasked.rights import is_right_table, verdict
from tests import plain, samples
from tests.samples import FREE_DOC, MADE, ODD, ONE, QUARREL_DOC, STORE, STORE_DOC, TURNED, TWO, WIDE, bent, ring

SMALL = list(plain.programs(ONE, 2))
DRAWN = [samples.drawn_program(seed, house, 1 + seed % 6) for seed in range(40) for house in (ONE, TWO, WIDE)]


def side_by_side(one, other):
    """The pairs of states that come side by side, whatever they answer."""
    queue = [(0, 0)]
    for a, b in queue:
        for p, q in zip(one[2][a], other[2][b]):
            if (p[1], q[1]) not in queue:
                queue.append((p[1], q[1]))
    return queue


def likely(one, other, thing):
    """is_likeness by its words."""
    if not isinstance(thing, tuple):
        return False
    for pair in thing:
        if not isinstance(pair, tuple) or len(pair) != 2 or not plain.number(pair[0]) or not plain.number(pair[1]):
            return False
        if not (0 <= pair[0] < len(one[2]) and 0 <= pair[1] < len(other[2])):
            return False
    if len(set(thing)) != len(thing) or (0, 0) not in thing:
        return False
    return all(p[0] == q[0] and (p[1], q[1]) in thing for a, b in thing for p, q in zip(one[2][a], other[2][b]))


def first_parting(one, other):
    for word in plain.words(one[1], len(one[2]) + len(other[2]) - 1):
        if plain.trace(one, word)[0] != plain.trace(other, word)[0]:
            return word
    return None


def renumbered(program, order):
    """The program with its states at other numbers; 0 stays 0."""
    place = {state: at for at, state in enumerate(order)}
    return program[:2] + (tuple(tuple((a, place[to]) for a, to in program[2][state]) for state in order),)


class Normals(unittest.TestCase):
    def check(self, program):
        least = normal(program)
        self.assertTrue(is_program(least))
        self.assertEqual(least[1], program[1])
        # All its states are met in their order, and each two of them part.
        met = [0]
        for state in met:
            for _, to in least[2][state]:
                if to not in met:
                    met.append(to)
        self.assertEqual(met, list(range(len(least[2]))))
        for word in plain.words(program[1], 3 if len(program[1][1]) > 1 else 8):
            self.assertEqual(plain.trace(least, word)[0], plain.trace(program, word)[0])
        return least

    def begun(self, program, state):
        order = [state] + [s for s in range(len(program[2])) if s != state]
        return renumbered(program, order)

    def test_by_hand(self):
        self.assertEqual(normal(MADE), MADE)
        long = ("program", ONE, ((("x", 2),), (("y", 0),), (("x", 3),), (("x", 2),)))
        self.assertEqual(normal(long), ("program", ONE, ((("x", 0),),)))
        turned = ("program", ONE, ((("x", 2),), (("y", 1),), (("y", 3),), (("x", 3),)))
        self.assertEqual(normal(turned), ("program", ONE, ((("x", 1),), (("y", 2),), (("x", 2),))))

    def test_least(self):
        for program in SMALL + DRAWN:
            least = self.check(program)
            for one in range(len(least[2])):
                for other in range(one):
                    self.assertIsNotNone(first_parting_fast(self.begun(least, one), self.begun(least, other)))
            self.assertEqual(normal(least), least)

    def test_equal_exactly_if_they_answer_alike(self):
        for one, other in product(SMALL, SMALL):
            same = plain.trace(one, ("c",) * 4) == plain.trace(other, ("c",) * 4)
            alike = plain.trace(one, ("c",) * 4)[0] == plain.trace(other, ("c",) * 4)[0]
            self.assertEqual(normal(one) == normal(other), alike)
            self.assertTrue(alike or not same)

    def test_other_numbers(self):
        for seed in range(20):
            program = samples.drawn_program(seed, TWO, 6)
            other = renumbered(program, [0, 5, 2, 4, 1, 3])
            self.assertEqual(normal(program), normal(other))
            self.assertIsNone(parting(program, other))

    def test_parts_of_many_states(self):
        import random
        for seed in range(300):
            draw = random.Random(seed)
            many = draw.randint(6, 40)
            rare = draw.choice((0.05, 0.1, 0.3))
            rows = tuple(tuple(("y" if draw.random() < rare else "x", draw.randrange(max(0, at - 3), many))
                               for _ in range(2)) for at in range(many))
            program = ("program", TWO, rows)
            part = plain.unlike_states(program)
            place, order = {part[0]: 0}, [0]
            for at in order:
                for _, to in rows[at]:
                    if part[to] not in place:
                        place[part[to]] = len(order)
                        order.append(to)
            told = tuple(tuple((answer, place[part[to]]) for answer, to in rows[at]) for at in order)
            self.assertEqual(normal(program), ("program", TWO, told))

    def test_hundreds_of_states(self):
        self.assertEqual(len(normal(ring(TWO, 400, (7,)))[2]), 400)
        self.assertEqual(len(normal(ring(TWO, 400, tuple(range(0, 400, 4))))[2]), 4)
        self.assertEqual(len(normal(ring(TWO, 400, ()))[2]), 1)
        self.assertEqual(normal(ring(TWO, 400, (7,))), ring(TWO, 400, (7,)))

    def test_errors(self):
        for thing in ODD + [STORE_DOC]:
            with self.assertRaises(BadProgram):
                normal(thing)
        self.assertEqual(normal(program=MADE), MADE)


def first_parting_fast(one, other):
    """Some word that parts two programs, or None, by pairs of states."""
    queue = {(0, 0): ()}
    order = [(0, 0)]
    for a, b in order:
        for call, p, q in zip(plain.calls(one[1]), one[2][a], other[2][b]):
            if p[0] != q[0]:
                return queue[(a, b)] + (call,)
            if (p[1], q[1]) not in queue:
                queue[(p[1], q[1])] = queue[(a, b)] + (call,)
                order.append((p[1], q[1]))
    return None


class Likeness(unittest.TestCase):
    def test_small(self):
        for one, other in product(SMALL[::2], SMALL):
            word = first_parting(one, other)
            self.assertEqual(parting(one, other), word)
            if word is None:
                told = likeness(one, other)
                self.assertEqual(told, tuple(sorted(side_by_side(one, other))))
                self.assertIs(is_likeness(one, other, told), True)
            else:
                with self.assertRaises(Parted) as caught:
                    likeness(one, other)
                self.assertEqual(caught.exception.word, word)
                self.assertLess(len(word), len(one[2]) + len(other[2]))

    def test_drawn(self):
        for seed in range(60):
            one = samples.drawn_program(seed, TWO, 3)
            other = samples.drawn_program(seed + 1000, TWO, 2)
            for program in (other, normal(one)):
                self.assertEqual(parting(one, program), first_parting(one, program))
            self.assertEqual(likeness(one, normal(one)), tuple(sorted(side_by_side(one, normal(one)))))

    def test_order_of_calls(self):
        for house, word in ((TWO, ("c", "d")), (TURNED, ("d", "c"))):
            one = ("program", house, ((("x", 1), ("x", 1)), (("x", 1), ("x", 1))))
            other = ("program", house, ((("x", 1), ("x", 2)), (("x", 1), ("y", 1)), (("y", 1), ("x", 1))))
            self.assertEqual(parting(one, other), word)

    def test_hundreds_of_states(self):
        one, other = ring(ONE, 400, (399,)), ring(ONE, 399, (398,))
        self.assertEqual(parting(one, other), ("c",) * 399)
        self.assertEqual(parting(ring(ONE, 200, (199,)), ring(ONE, 400, (199,))), ("c",) * 400)
        told = likeness(ring(ONE, 400, (1, 3)), ring(ONE, 400, (1, 3)))
        self.assertEqual(told, tuple((at, at) for at in range(400)))
        wide = likeness(ring(ONE, 100, ()), ring(ONE, 99, ()))
        self.assertEqual(wide, tuple(product(range(100), range(99))))
        self.assertTrue(is_likeness(ring(ONE, 100, ()), ring(ONE, 99, ()), wide[::-1]))
        self.assertFalse(is_likeness(ring(ONE, 100, ()), ring(ONE, 99, ()), wide[:-1]))

    def test_is_likeness(self):
        pairs = list(product(range(2), range(2)))
        things = [told for many in range(5) for told in product(pairs, repeat=many) if many < 4 or len(set(told)) == 4]
        for one, other in product(SMALL[2::3], SMALL[::4]):
            for thing in things[::3]:
                self.assertIs(is_likeness(one, other, thing), likely(one, other, thing))
        for one, other in ((MADE, MADE), (DRAWN[0], normal(DRAWN[0])), (ring(ONE, 3, ()), ring(ONE, 1, ()))):
            told = likeness(one, other)
            for thing in list(bent(told)) + ODD:
                self.assertIs(is_likeness(one, other, thing), likely(one, other, thing), thing)
        self.assertFalse(is_likeness(MADE, MADE, ((False, False), (True, True))))
        self.assertTrue(is_likeness(MADE, MADE, ((1, 1), (0, 0))))

    def test_errors(self):
        for asked, rest in ((parting, ()), (likeness, ()), (is_likeness, (None,))):
            for thing in ODD:
                for other in (MADE, None):
                    with self.assertRaises(BadProgram):
                        asked(thing, other, *rest)
                with self.assertRaises(BadProgram):
                    asked(MADE, thing, *rest)
            for one, other in ((TWO, TURNED), (TURNED, TWO), (ONE, TWO), (STORE, TWO)):
                with self.assertRaises(OtherHouse):
                    asked(ring(one, 1, ()), ring(other, 1, ()), *rest)
        self.assertIsNone(parting(other=MADE, program=MADE))
        self.assertEqual(likeness(other=MADE, program=MADE), ((0, 0), (1, 1)))
        self.assertTrue(is_likeness(thing=((0, 0), (1, 1)), other=MADE, program=MADE))


def table_form(document, program, thing):
    """is_right_table by its words."""
    if not isinstance(thing, tuple):
        return False
    for pair in thing:
        if not isinstance(pair, tuple) or len(pair) != 2 or not plain.number(pair[0]):
            return False
        if not 0 <= pair[0] < len(program[2]) or not isinstance(pair[1], tuple) or len(pair[1]) != len(document[2]):
            return False
        for clause, lot in zip(document[2], pair[1]):
            if not isinstance(lot, tuple) or not lot or not all(isinstance(p, str) and p in clause[2] for p in lot):
                return False
            if not plain.ascending([clause[2].index(p) for p in lot]):
                return False
    if len(set(thing)) != len(thing) or (0, plain.first_stand(document)) not in thing:
        return False
    for state, stand in thing:
        for call, (answer, to) in zip(plain.calls(document[1]), program[2][state]):
            if (to, plain.stand_after(document, stand, call, answer)) not in thing:
                return False
    return True


def walked_table(document, program):
    """The pairs that come side by side, sorted by the words of [32]."""
    queue = [(0, plain.first_stand(document))]
    for state, stand in queue:
        for call, (answer, to) in zip(plain.calls(document[1]), program[2][state]):
            there = (to, plain.stand_after(document, stand, call, answer))
            if there not in queue:
                queue.append(there)
    index = [clause[2].index for clause in document[2]]
    return tuple(sorted(queue, key=lambda p: (p[0], [[at(x) for x in lot] for at, lot in zip(index, p[1])])))


class Verdicts(unittest.TestCase):
    def check(self, document, program):
        told = verdict(document, program)
        if plain.right(document, program):
            self.assertEqual(told, ("right", walked_table(document, program)))
            self.assertIs(is_right_table(document, program, told[1]), True)
            self.assertIs(is_right_table(document, program, told[1][::-1]), True)
            return
        self.assertEqual((told[0], len(told)), ("breaks", 3))
        for word in plain.words(document[1], min(len(told[1]), 4 if len(document[1][1]) > 1 else 9)):
            if not plain.let(document, plain.told_history(program, word)):
                self.assertEqual(told[1], word)
                break
        self.assertEqual(broken_at(document, history(program, told[1])), (len(told[1]), told[2]))

    def test_by_hand(self):
        empty, some, both = (("empty",),), (("some",),), (("empty", "some"),)
        self.assertEqual(verdict(STORE_DOC, MADE), ("right", ((0, empty), (1, both), (1, some))))
        one = ring(STORE, 1, ())
        self.assertEqual(verdict(STORE_DOC, one), ("breaks", ("take",), 0))
        self.assertEqual(verdict(QUARREL_DOC, ring(ONE, 1, ())), ("breaks", ("c",), 1))
        self.assertEqual(verdict(QUARREL_DOC, ring(ONE, 1, (0,))), ("breaks", ("c",), 0))
        self.assertEqual(verdict(FREE_DOC, ring(TWO, 2, ())), ("right", ((0, ()), (1, ()))))

    def test_small(self):
        for document in samples.small_documents()[::3]:
            for program in SMALL:
                self.check(document, program)

    def test_drawn(self):
        for seed in range(150):
            document = samples.drawn_document(seed)
            for many in (1, 2, 4):
                self.check(document, samples.drawn_program(seed, document[1], many))

    def test_many(self):
        self.check(samples.plus_chain(39), ring(ONE, 400, ()))
        self.check(samples.plus_chain(39), ring(ONE, 400, tuple(range(39, 400))))
        program = ("program", ONE, ring(ONE, 400, tuple(range(39, 400)))[2][:399] + ((("y", 399),),))
        told = verdict(samples.plus_chain(39), program)
        self.assertEqual((told[0], len(told[1])), ("right", 400))

    def test_sorted_by_the_clause(self):
        clause = ("clause", "k", ("z", "y", "a"), (
            ("z", "c", (("x", "z"), ("x", "y"), ("y", "a"))), ("y", "c", (("x", "y"), ("y", "y"))),
            ("a", "c", (("x", "z"), ("x", "a")))))
        told = verdict(("document", ONE, (clause,)), ("program", ONE, ((("x", 0),),)))
        self.assertEqual(told, ("right", ((0, (("z",),)), (0, (("z", "y"),)))))
        told = verdict(("document", ONE, (clause,)), ("program", ONE, ((("y", 1),), (("x", 1),))))
        self.assertEqual(told[1], ((0, (("z",),)), (1, (("z", "y", "a"),)), (1, (("z", "a"),)), (1, (("a",),))))

    def test_is_right_table(self):
        for document, program in ((STORE_DOC, MADE), (FREE_DOC, ring(TWO, 2, (1,))), (samples.TWICE_DOC, ring(ONE, 2, (1,)))):
            told = verdict(document, program)[1]
            for thing in list(bent(told)) + ODD:
                self.assertIs(is_right_table(document, program, thing), table_form(document, program, thing), thing)
        told = verdict(STORE_DOC, MADE)[1]
        for at in range(3):
            self.assertFalse(is_right_table(STORE_DOC, MADE, told[:at] + told[at + 1:]))
            self.assertFalse(is_right_table(STORE_DOC, MADE, told + told[at:at + 1]))
        # Pairs that do not come may stand in it as well, if what is behind them does.
        more = told + ((0, (("empty", "some"),)),)
        self.assertIs(is_right_table(STORE_DOC, MADE, more), table_form(STORE_DOC, MADE, more))
        self.assertFalse(is_right_table(STORE_DOC, MADE, told + ((0, ((),)),)))
        lone = ring(ONE, 3, ())
        self.assertTrue(is_right_table(("document", ONE, ()), lone, ((2, ()), (0, ()), (1, ()))))

    def test_more_than_is_needed(self):
        document = ("document", ONE, (("clause", "k", ("p", "q"), (("q", "c", (("x", "q"), ("y", "p"))),)),))
        program = ("program", ONE, ((("x", 0),), (("y", 1),)))
        first = (0, (("p",),))
        for more in ((0, (("q",),)), (0, (("p", "q"),)), (1, (("p",),)), (1, (("q",),))):
            for thing in ((first, more), (more, first)):
                self.assertIs(is_right_table(document, program, thing), table_form(document, program, thing))

    def test_there_is_a_table_exactly_for_right_programs(self):
        documents = [d for d in samples.small_documents()[::23]]
        for document in documents:
            stands = [s for s in [(("p",),), (("q",),), (("p", "q"),)]]
            for program in SMALL[:2]:
                pairs = [(0, stand) for stand in stands]
                some = any(is_right_table(document, program, tuple(p for p, good in zip(pairs, told) if good))
                           for told in product((True, False), repeat=3))
                self.assertEqual(some, plain.right(document, program))

    def test_errors(self):
        for asked, rest in ((verdict, ()), (is_right_table, (None,))):
            for thing in ODD + [MADE]:
                for program in (MADE, None):
                    with self.assertRaises(BadDocument):
                        asked(thing, program, *rest)
            for thing in ODD + [STORE_DOC]:
                with self.assertRaises(BadProgram):
                    asked(STORE_DOC, thing, *rest)
            for document, program in ((STORE_DOC, ring(ONE, 1, ())), (FREE_DOC, ring(TURNED, 1, ()))):
                with self.assertRaises(OtherHouse):
                    asked(document, program, *rest)
        self.assertEqual(verdict(program=MADE, document=STORE_DOC)[0], "right")
        self.assertFalse(is_right_table(thing=(), program=MADE, document=STORE_DOC))


if __name__ == "__main__":
    unittest.main()
