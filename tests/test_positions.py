"""positions: which one of several programs a thing is [84]; homes: in which state it is [85]; the example of [86]."""

import random
import unittest
from functools import lru_cache
from itertools import combinations

from saidandasked.errors import BadLeft, BadPrograms, BadProgram, BadState
from saidandasked.homes import are_home_bars, begun_at, home, is_homing_tree
from saidandasked.normals import normal
from saidandasked.positions import are_bars_of, is_asking_tree, which
from tests import plain, samples
from tests.samples import MADE, ODD, ONE, STORE, TURNED, TWO, WIDE, bent, ring

ALPHA = ("program", TWO, ((("y", 1), ("x", 1)), (("x", 1), ("x", 1))))
BETA = ("program", TWO, ((("x", 1), ("y", 1)), (("x", 1), ("x", 1))))
GAMMA = ("program", TWO, ((("x", 0), ("x", 0)),))


def normals(house, most):
    return list(dict.fromkeys(normal(program) for program in plain.programs(house, most)))


SMALL = {ONE: normals(ONE, 3), TWO: normals(TWO, 2)}


@lru_cache(maxsize=100000)
def alike_from(one, state, other, there):
    """Whether two programs answer all words alike from these states on."""
    queue = [(state, there)]
    for left, right in queue:
        for (answer, to), (told, goal) in zip(one[2][left], other[2][right]):
            if answer != told:
                return False
            if (to, goal) not in queue:
                queue.append((to, goal))
    return True


# Positions, by the words of the document.

def after(programs, position, call, answer):
    at = plain.calls(programs[0][1]).index(call)
    found = []
    for program, state in zip(programs, position):
        entry = None if state is None else program[2][state][at]
        found.append(entry[1] if entry is not None and entry[0] == answer else None)
    return tuple(found)


def with_states(position):
    return [at for at, state in enumerate(position) if state is not None]


def is_lost(programs, position):
    return any(alike_from(programs[a], position[a], programs[b], position[b])
               for a, b in combinations(with_states(position), 2))


def tree_form(programs, tree, position):
    if not isinstance(tree, tuple) or not tree or not isinstance(tree[0], str):
        return False
    if tree[0] == "is" and len(tree) == 2:
        return plain.number(tree[1]) and with_states(position) == [tree[1]]
    house = programs[0][1]
    if tree[0] != "ask" or len(tree) != 3 or not isinstance(tree[1], str) or tree[1] not in plain.calls(house):
        return False
    answers = plain.answers_of(house, tree[1])
    if not isinstance(tree[2], tuple) or len(tree[2]) != len(answers):
        return False
    for answer, part in zip(answers, tree[2]):
        there = after(programs, position, tree[1], answer)
        if not with_states(there):
            if part is not None:
                return False
        elif not tree_form(programs, part, there):
            return False
    return True


def asks(tree):
    return 0 if tree[0] != "ask" else 1 + max(asks(part) for part in tree[2] if part is not None)


def position_form(programs, x):
    if not isinstance(x, tuple) or len(x) != len(programs):
        return False
    if not all(state is None or plain.number(state) and 0 <= state < len(p[2]) for state, p in zip(x, programs)):
        return False
    return len(with_states(x)) > 1


def left_form(x):
    return x is None or plain.number(x) and x >= 0


def bars_form(programs, left, thing, seen=position_form, lost=is_lost, behind=after, first=None):
    """are_bars_of by its words, and likewise are_home_bars."""
    if not isinstance(thing, tuple) or not all(isinstance(row, tuple) and len(row) == 2 for row in thing):
        return False
    if not all(seen(programs, row[0]) and left_form(row[1]) for row in thing) or len(set(thing)) < len(thing):
        return False
    house = programs[0][1] if seen is position_form else programs[1]
    first = (0,) * len(programs) if first is None else first
    if (first, left) not in thing:
        return False
    for position, calls in thing:
        for call in plain.calls(house) if calls != 0 else []:
            good = False
            for answer in plain.answers_of(house, call):
                there = behind(programs, position, call, answer)
                if lost(programs, there):
                    good = True
                for other, many in thing:
                    if other == there and (many is None if calls is None else many is not None and many >= calls - 1):
                        good = True
            if not good:
                return False
    return True


def least_calls(house, first, behind, is_known):
    """The least number of calls of a tree, None if there is none: what is known soon is found again and again."""
    met, queue = {first}, [first]
    for here in queue:
        for pair in plain.pairs(house):
            there = behind(here, *pair)
            if there is not None and there not in met:
                met.add(there)
                queue.append(there)
    known = {here for here in met if is_known(here)}
    for many in range(len(met) + 1):
        if first in known:
            return many
        more = {here for here in met if any(
            all(behind(here, call, answer) in known or behind(here, call, answer) is None
                for answer in plain.answers_of(house, call)) for call in plain.calls(house))}
        if more <= known:
            return None
        known |= more
    return None


def least_of(programs):
    def behind(position, call, answer):
        there = after(programs, position, call, answer)
        return there if with_states(there) else None

    return least_calls(programs[0][1], (0,) * len(programs), behind, lambda position: len(with_states(position)) == 1)


class Which(unittest.TestCase):
    def check(self, programs):
        told = which(programs)
        least = least_of(programs)
        if least is None:
            self.assertEqual(len(told), 2)
            self.assertEqual(told[0], "never")
            bars, left = told[1], None
        else:
            self.assertEqual(len(told), 4)
            self.assertEqual(told[:2], ("within", least))
            self.assertTrue(tree_form(programs, told[2], (0,) * len(programs)))
            self.assertEqual(asks(told[2]), least)
            self.assertIs(is_asking_tree(programs, told[2]), True)
            bars, left = told[3], least - 1
        self.assertTrue(bars_form(programs, left, bars))
        self.assertIs(are_bars_of(programs, left, bars), True)
        self.assertEqual(which(tuple(programs)), told)
        return told

    def drawn(self, many, sizes=(2, 3, 3, 4, 6)):
        for seed in range(many):
            draw = random.Random(seed)
            house = (ONE, TWO, TWO)[seed % 3]
            if seed % 2:
                yield draw.sample(SMALL[house], sizes[seed % len(sizes)])
            else:
                found = self.of_one_tail(draw, sizes[seed // 2 % len(sizes)])
                if found is not None:
                    yield found

    def of_one_tail(self, draw, many):
        """Programs whose last states are the same, so that what is asked wrongly makes them alike."""
        tail = [tuple((draw.choice("xxy"), draw.randrange(2, 4)) for _ in "cd") for _ in range(2)]
        found = []
        for _ in range(60):
            head = [tuple((draw.choice("xxxy"), draw.randrange(4)) for _ in "cd") for _ in range(2)]
            program = normal(("program", TWO, tuple(head + tail)))
            if program not in found and len(found) < many:
                found.append(program)
        return found if len(found) == many else None

    def test_all(self):
        seen = {}
        for programs in list(self.drawn(700)):
            told = self.check(programs)
            key = told[0] if told[0] == "never" else told[1]
            seen[key] = seen.get(key, 0) + 1
        self.assertGreater(seen["never"], 20)
        self.assertTrue({1, 2, 3, 4} <= set(seen), seen)

    def test_pairs(self):
        # Two are always told apart, within one call less than both have states.
        for house, step in ((ONE, 3), (TWO, 7)):
            for pair in list(combinations(SMALL[house], 2))[::step]:
                told = self.check(list(pair)) if step == 7 else which(pair)
                self.assertEqual(told[0], "within")
                self.assertLess(told[1], len(pair[0][2]) + len(pair[1][2]))

    def test_by_hand(self):
        self.assertEqual(which([ALPHA, BETA, GAMMA]), ("never", (((0, 0, 0), None),)))
        self.assertEqual(which([ALPHA, BETA]), ("within", 1, ("ask", "c", (("is", 1), ("is", 0))), (((0, 0), 0),)))
        self.check([GAMMA, ALPHA])
        told = self.check([normal(ring(ONE, 9, (8,))), normal(ring(ONE, 7, (6,)))])
        self.assertEqual(told[1], 7)

    def test_never_through_positions(self):
        # What is known next is not enough: behind each call two are lost, or it comes again.
        rows = ((("x", 0), ("x", 1)), (("x", 0), ("x", 2)), (("x", 3), ("x", 3)), (("x", 3), ("x", 3)))
        programs = []
        for last in ((("x", 3), ("y", 3)), (("y", 3), ("x", 3)), (("x", 3), ("x", 3))):
            programs.append(("program", TWO, rows[:2] + (last,) + rows[3:]))
        programs = [program if normal(program) == program else normal(program) for program in programs]
        told = self.check(programs)
        self.assertEqual(told[0], "never")
        self.assertIn(((0, 0, 0), None), told[1])

    def test_large(self):
        programs = [normal(samples.drawn_program(seed, (TWO, WIDE)[seed > 9], 60)) for seed in range(6)]
        told = which(programs)
        self.assertEqual(told[0], "within")
        self.assertTrue(tree_form(programs, told[2], (0,) * 6))
        self.assertTrue(bars_form(programs, told[1] - 1, told[3]))
        programs = [normal(ring(ONE, many, (many - 1,))) for many in (400, 399, 398)]
        told = which(programs)
        self.assertEqual(told[1], 399)
        self.assertTrue(is_asking_tree(programs, told[2]))
        self.assertTrue(are_bars_of(programs, 398, told[3]))
        self.assertFalse(are_bars_of(programs, 399, told[3]))

    def test_trees_that_ask_more(self):
        tree = ("ask", "d", (("ask", "c", (("is", 1), None)), None))
        programs = [ALPHA, GAMMA]
        for thing in (tree, ("ask", "c", (("is", 1), tree[2][0])), ("ask", "c", (("is", 1), ("is", 0))), ("is", 0),
                      ("ask", "c", (("is", 1), ("ask", "d", (("is", 0), None)))),
                      ("ask", "c", (("is", 1), ("ask", "d", (("is", 0), ("is", 0))))),
                      ("ask", "c", (("is", 1), None)), ("ask", "c", (("is", 0), ("is", 1))), ("is", True),
                      ("ask", "e", ()), ("ask", "c", [("is", 1), ("is", 0)]), ("ask", ["c"], (("is", 1), ("is", 0)))):
            self.assertIs(is_asking_tree(programs, thing), tree_form(programs, thing, (0, 0)), thing)
        self.assertTrue(is_asking_tree(programs, ("ask", "c", (("is", 1), ("ask", "d", (("is", 0), None))))))

    def test_bent_papers(self):
        for programs in list(self.drawn(60)) + [[ALPHA, BETA, GAMMA]]:
            told = which(programs)
            first = (0,) * len(programs)
            if told[0] == "within":
                things = list(bent(told[2]))
                for thing in things[::1 + len(things) // 150] + ODD:
                    self.assertIs(is_asking_tree(programs, thing), tree_form(programs, thing, first), thing)
            lefts = (None,) if told[0] == "never" else (told[1] - 1, max(told[1] - 2, 0), told[1], None)
            things = list(bent(told[-1]))
            for thing in things[::1 + len(things) // 200] + ODD:
                for left in lefts:
                    self.assertIs(are_bars_of(programs, left, thing), bars_form(programs, left, thing), thing)

    def test_drawn_bars(self):
        seen = [0, 0]
        for seed, programs in enumerate(self.drawn(200, (2, 3, 4))):
            draw = random.Random(seed)
            for _ in range(4):
                rows = [((0,) * len(programs), draw.choice((0, 1, 2, None)))]
                for _ in range(draw.randrange(5)):
                    position = tuple(draw.choice([None] + list(range(len(p[2])))) for p in programs)
                    rows.append((position, draw.choice((0, 1, 2, None))))
                thing = tuple(dict.fromkeys(rows)) if draw.random() < 0.9 else tuple(rows)
                good = bars_form(programs, rows[0][1], thing)
                self.assertIs(are_bars_of(programs, rows[0][1], thing), good)
                seen[good] += 1
        self.assertGreater(min(seen), 50)

    def test_heart(self):
        # Either a tree that asks at most n calls or bars with n, never both: a tree's calls are the bars' left, less 1.
        for programs in self.drawn(150):
            told = which(programs)
            for left in (0, 1, 2, 3, None):
                bars = told[-1]
                if told[0] == "within":
                    self.assertFalse(left is None and are_bars_of(programs, left, bars))
                    lower = tuple((position, None if left is None else min(many, left)) for position, many in bars)
                    good = left is not None and left < told[1]
                    self.assertIs(are_bars_of(programs, left, tuple(dict.fromkeys(lower))) and True, good and (
                        bars_form(programs, left, tuple(dict.fromkeys(lower)))))
                elif left is not None:
                    numbered = tuple((position, left) for position, _ in bars)
                    self.assertTrue(are_bars_of(programs, left, numbered))

    def test_errors(self):
        twice = ("program", ONE, ((("x", 0),), (("x", 0),)))
        other = ("program", TURNED, GAMMA[2])
        wrong = [[ALPHA], [], [ALPHA] * 2, [ALPHA, BETA, ALPHA], [ALPHA, None], [ALPHA, other], SMALL[TWO][:7],
                 [twice, SMALL[ONE][0]], (GAMMA, ring(TWO, 2, ())), {ALPHA: 1, BETA: 2}, "ab", ALPHA, MADE]
        for thing in ODD + wrong:
            for asking, rest in ((which, ()), (is_asking_tree, (None,)), (are_bars_of, ("left", None))):
                with self.assertRaises(BadPrograms):
                    asking(thing, *rest)
            if not left_form(thing):
                with self.assertRaises(BadLeft):
                    are_bars_of([ALPHA, BETA], thing, None)
        for left in (-1, True, False, "0"):
            with self.assertRaises(BadLeft):
                are_bars_of(programs=[ALPHA, BETA], left=left, thing=())
        self.assertEqual(which(programs=(ALPHA, BETA))[0], "within")
        self.assertFalse(is_asking_tree(thing=None, programs=[ALPHA, BETA]))
        self.assertFalse(are_bars_of(thing=(), left=None, programs=[ALPHA, BETA]))
        self.assertEqual(which(SMALL[TWO][:6])[0], which(SMALL[TWO][:6])[0])


# Known states, by the words of the document.

def states_after(program, states, call, answer):
    at = plain.calls(program[1]).index(call)
    found = {program[2][state][at][1] for state in states if program[2][state][at][0] == answer}
    return tuple(sorted(found))


def homing_form(program, tree, states):
    if not isinstance(tree, tuple) or not tree or not isinstance(tree[0], str):
        return False
    if tree[0] == "state" and len(tree) == 2:
        return plain.number(tree[1]) and states == (tree[1],)
    if tree[0] != "ask" or len(tree) != 3 or not isinstance(tree[1], str) or tree[1] not in plain.calls(program[1]):
        return False
    answers = plain.answers_of(program[1], tree[1])
    if not isinstance(tree[2], tuple) or len(tree[2]) != len(answers):
        return False
    for answer, part in zip(answers, tree[2]):
        there = states_after(program, states, tree[1], answer)
        if not there:
            if part is not None:
                return False
        elif not homing_form(program, part, there):
            return False
    return True


def states_form(program, x):
    if not isinstance(x, tuple) or not all(plain.number(state) and 0 <= state < len(program[2]) for state in x):
        return False
    return len(x) > 1 and plain.ascending(list(x))


def home_bars_form(program, left, thing):
    if isinstance(thing, tuple) and any(isinstance(row, tuple) and len(row) == 2 and row[1] is None for row in thing):
        # Here left is always a number.
        return False
    return bars_form(program, left, thing, states_form, lambda *told: False, states_after,
                     tuple(range(len(program[2]))))


class Homes(unittest.TestCase):
    def check(self, program):
        told = home(program)
        self.assertIs(type(told), tuple)
        self.assertEqual(len(told), 3)
        least = normal(program)
        first = tuple(range(len(least[2])))
        most = least_calls(least[1], first, lambda states, *pair: states_after(least, states, *pair) or None,
                           lambda states: len(states) == 1)
        self.assertEqual(told[0], most)
        self.assertTrue(homing_form(least, told[1], first))
        self.assertIs(is_homing_tree(program, told[1]), True)
        self.assertEqual(asks(told[1]), most)
        self.assertLessEqual(most, len(first) * (len(first) - 1) // 2)
        if most == 0:
            self.assertEqual(told[2], ())
        else:
            self.assertTrue(home_bars_form(least, most - 1, told[2]))
            self.assertIs(are_home_bars(program, most - 1, told[2]), True)
        return told

    def test_all(self):
        seen = {}
        for house, step in ((ONE, 1), (TWO, 3)):
            for program in SMALL[house][::step]:
                told = self.check(program)
                seen[told[0]] = seen.get(told[0], 0) + 1
        for seed in range(120):
            told = self.check(samples.drawn_program(seed, (ONE, TWO, STORE, WIDE)[seed % 4], 2 + seed % 7))
            seen[told[0]] = seen.get(told[0], 0) + 1
        self.assertTrue({0, 1, 2, 3, 4} <= set(seen), seen)

    def test_by_hand(self):
        self.assertEqual(home(ALPHA), (1, ("ask", "c", (("state", 1), ("state", 1))), (((0, 1), 0),)))
        self.assertEqual(home(GAMMA), (0, ("state", 0), ()))
        # The states are those of the normal program.
        self.assertEqual(home(ring(TWO, 9, ())), (0, ("state", 0), ()))
        twice = ("program", TWO, ALPHA[2] + ALPHA[2])
        self.assertEqual(home(twice), home(ALPHA))
        for many in (2, 5, 9):
            self.assertEqual(self.check(ring(ONE, many, (many - 1,)))[0], many - 1)
        # Which state it was in at first can be "never", which state it comes to not.
        begun = [begun_at(ALPHA, 0), begun_at(ALPHA, 1)]
        self.assertEqual(which(begun)[0], "within")
        third = ("program", TWO, ((("x", 1), ("x", 2)), (("x", 3), ("y", 3)), (("y", 3), ("x", 3)), (("x", 3), ("x", 3))))
        self.check(third)
        self.assertEqual(which([begun_at(third, state) for state in (1, 2, 3)])[0], "never")

    def test_large(self):
        for seed in range(4):
            program = samples.drawn_program(seed, TWO, 100)
            told = home(program)
            least = normal(program)
            self.assertTrue(homing_form(least, told[1], tuple(range(len(least[2])))))
            self.assertTrue(are_home_bars(program, told[0] - 1, told[2]))
            self.assertFalse(are_home_bars(program, told[0], told[2]))
        deep = home(ring(ONE, 400, (399,)))
        self.assertEqual(deep[0], 399)
        self.assertTrue(is_homing_tree(ring(ONE, 400, (399,)), deep[1]))

    def test_bent_papers(self):
        for number, program in enumerate(SMALL[TWO][5::23] + SMALL[ONE][3::19]):
            told = home(program)
            first = tuple(range(len(program[2])))
            things = list(bent(told[1]))
            more = [("ask", "c", (told[1], told[1])), ("ask", "c", (told[1], None)), ("ask", "c", (None, told[1]))]
            for thing in things[::1 + len(things) // 120] + ODD + more:
                self.assertIs(is_homing_tree(program, thing), homing_form(program, thing, first), thing)
            things = list(bent(told[2]))
            for thing in things[::1 + len(things) // 200] + ODD + [((first, 0),), ((first, None),), ((first, 0), ((0,), 0))]:
                for left in (0, 1, told[0]):
                    good = home_bars_form(program, left, thing)
                    self.assertIs(are_home_bars(program, left, thing), good, thing)

    def test_begun_at(self):
        for seed in range(60):
            house = (ONE, TWO, STORE, TURNED, WIDE)[seed % 5]
            program = samples.drawn_program(seed, house, 1 + seed % 6)
            for state in range(len(program[2])):
                begun = begun_at(program, state)
                self.assertTrue(plain.program_form(begun))
                self.assertEqual(normal(begun), begun)
                self.assertTrue(alike_from(program, state, begun, 0))
            self.assertEqual(begun_at(program, 0), normal(program))
        # The states are those of the program as it is passed, whether they are met or not.
        loose = ("program", ONE, ((("x", 0),), (("y", 1),)))
        self.assertEqual(begun_at(loose, 1), ("program", ONE, ((("y", 0),),)))

    def test_errors(self):
        for thing in ODD:
            for asking, rest in ((home, ()), (is_homing_tree, (None,)), (are_home_bars, (None, None)), (begun_at, (None,))):
                with self.assertRaises(BadProgram):
                    asking(thing, *rest)
            if not plain.number(thing) or thing < 0:
                with self.assertRaises(BadLeft):
                    are_home_bars(ALPHA, thing, None)
            if not plain.number(thing) or not 0 <= thing < 2:
                with self.assertRaises(BadState):
                    begun_at(ALPHA, thing)
        for state in (-1, 2, True, None):
            with self.assertRaises(BadState):
                begun_at(program=ALPHA, state=state)
        with self.assertRaises(BadLeft):
            are_home_bars(ALPHA, None, home(ALPHA)[2])
        self.assertTrue(are_home_bars(thing=home(ALPHA)[2], left=0, program=ALPHA))
        self.assertFalse(are_home_bars(GAMMA, 0, ()))
        self.assertTrue(is_homing_tree(thing=("state", 0), program=GAMMA))
        self.assertEqual(home(program=GAMMA)[0], 0)


if __name__ == "__main__":
    unittest.main()
