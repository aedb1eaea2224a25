"""budgets: how much must be paid [92]; spending: the papers of it [93]; the example of [94]."""

import random
import unittest
from functools import lru_cache

from saidandasked.budgets import budget, late_budget, within
from saidandasked.errors import BadDocument, BadLimit, BadProgram, NotEnough, OtherHouse, Unsound
from saidandasked.mending import mended
from saidandasked.normals import normal
from saidandasked.spending import budget_paper, is_beyond, is_within
from tests import plain, samples
from tests.samples import (THREE, FREE_DOC, MADE, ODD, ONE, QUARREL_DOC, STORE, STORE_DOC, TURNED, TWICE_DOC, TWO, bent, ring)
from tests.test_covers import document_of_clauses
from tests.test_decided import documents
from tests.test_mending import some_programs, wide_documents

SMALL = samples.small_documents()


def roads(many):
    """Documents of one clause that lead one way through some places, to where all is let: much is paid on some roads."""
    for seed in range(many):
        draw = random.Random(seed)
        house = (ONE, TWO, THREE)[seed % 3]
        places = tuple(samples.free(3 + seed % 4))
        rows = []
        for at, place in enumerate(places[:-1]):
            for call in house[1]:
                answers = draw.choice(("x", "y", "y", "xy", "yz" if house == THREE else "y"))
                # On some roads one stays for ever at the last place but one.
                goals = (place,) if seed % 4 == 0 and place == places[-2] else places[at + 1:]
                rows.append((place, call[1], tuple((answer, draw.choice(goals)) for answer in answers)))
        yield document_of_clauses(house, ("clause", "road", places, tuple(rows)))


# Both answers at first; behind x only y for ever, behind y everything ([94]).
HAND = document_of_clauses(ONE, ("clause", "k", ("s", "p", "q"), (
    ("s", "c", (("x", "p"), ("y", "q"))), ("p", "c", (("y", "p"),)))))
ALL = list(documents(50)) + SMALL[::23] + list(roads(80)) + list(wide_documents(60)) + [HAND]
SOUND = [document for document in ALL if plain.sound(document)]

ALWAYS = ring(ONE, 1, ())
# Only what was answered first, for ever.
FIRST = document_of_clauses(ONE, ("clause", "k", ("s", "p", "q"), (
    ("s", "c", (("x", "p"), ("y", "q"))), ("p", "c", (("x", "p"),)), ("q", "c", (("y", "q"),)))))
TURNS = ring(ONE, 2, (1,))


def moves(document, program, pair):
    """For each call the triples (answer, whether it is the program's own, pair behind or None if it is broken)."""
    state, stand = pair
    found = []
    for call, (own, to) in zip(plain.calls(document[1]), program[2][state]):
        row = []
        for answer in plain.answers_of(document[1], call):
            there = plain.stand_after(document, stand, call, answer)
            row.append((answer, answer == own, None if () in there else (to, there)))
        found.append(row)
    return found


@lru_cache(maxsize=5000)
def costs(document, program):
    """What must be paid from each pair, by sets of pairs from which so much is enough; None if nothing is."""
    first = (0, plain.first_stand(document))
    met = [first]
    for pair in met:
        for row in moves(document, program, pair):
            met.extend([there for _, _, there in row if there is not None and there not in met])
    met = list(dict.fromkeys(met))
    enough, found = set(), {}
    for limit in range(len(met) + 1):
        good = set(met)
        while True:
            left = {pair for pair in good if all(
                any(there in (good if own else enough) for _, own, there in row) for row in moves(document, program, pair))}
            if left == good:
                break
            good = left
        for pair in good:
            found.setdefault(pair, limit)
        enough = good
    return {pair: found.get(pair) for pair in met}


def paid(program, other):
    """The most that the first program pays for another one, None if there is no bound."""
    edges = {}
    queue = [(0, 0)]
    for pair in queue:
        edges[pair] = []
        for (answer, to), (own, goal) in zip(program[2][pair[0]], other[2][pair[1]]):
            edges[pair].append((int(answer != own), (to, goal)))
            if (to, goal) not in queue:
                queue.append((to, goal))
    best = {pair: 0 for pair in queue}
    for turn in range(len(queue) + 1):
        new = {pair: max(cost + best[to] for cost, to in edges[pair]) for pair in queue}
        if new == best:
            return best[(0, 0)]
        best = new
    # Without a bound it grows as often as one likes.
    for _ in range(len(queue) * len(queue) + 1):
        new = {pair: max(cost + best[to] for cost, to in edges[pair]) for pair in queue}
        if new == best:
            return best[(0, 0)]
        best = new
    return None


def late(document, program):
    """late_budget by its words: on the ways where the own answers are safe these are given."""
    known = costs(document, program)
    safe = plain.ranks(document)
    ways, most = [(0, plain.first_stand(document))], 0
    for pair in ways:
        for row in moves(document, program, pair):
            own = [there for _, is_own, there in row if is_own][0]
            if own is not None and safe[own[1]] is None:
                if own not in ways:
                    ways.append(own)
                continue
            rest = [known[there] for _, is_own, there in row if there is not None and not is_own]
            rest = [cost for cost in rest if cost is not None]
            if not rest:
                return None
            most = max(most, 1 + min(rest))
    return most


class Budgets(unittest.TestCase):
    def test_all(self):
        seen = {}
        for number, document in enumerate(SOUND):
            for program in some_programs(number, document):
                told = budget(document, program)
                self.assertEqual(told, costs(document, program)[(0, plain.first_stand(document))])
                self.assertIn(type(told), (int, type(None)))
                self.assertEqual(budget(document, normal(program)), told)
                later = late_budget(document, program)
                self.assertEqual(later, late(document, program))
                if told is None:
                    self.assertIsNone(later)
                elif later is not None:
                    self.assertLessEqual(told, later)
                seen[(told, later)] = seen.get((told, later), 0) + 1
        self.assertTrue({0, 1, 2, None} <= {told for told, _ in seen}, seen)
        self.assertTrue(any(told is not None and later is None for told, later in seen), seen)
        self.assertIn(3, {later for _, later in seen}, seen)
        self.assertTrue(any(told is not None and later is not None and told < later for told, later in seen), seen)

    def test_programs(self):
        # No right program of few states pays less; late_budget looks only at those that leave as late as mended does.
        count = 0
        for number, document in enumerate(SOUND):
            right = [other for other in plain.programs(document[1], 2) if plain.right(document, other)]
            for program in some_programs(number, document, 31):
                told, later = budget(document, program), late_budget(document, program)
                last = mended(document, program)
                for other in right[::2]:
                    bound = paid(other, program)
                    if bound is not None:
                        self.assertTrue(told is not None and told <= bound)
                        words = plain.words(document[1], 4)
                        if bound < 3 and all(plain.trace(other, word)[0] == plain.trace(program, word)[0] for word in words
                                             if plain.trace(last, word)[0] == plain.trace(program, word)[0]):
                            count += 1
                            # It agrees for 4 calls, and might leave too early behind them.
                            if len(other[2]) * len(program[2]) < 5:
                                self.assertTrue(later is not None and later <= bound)
        self.assertGreater(count, 100)

    def test_within(self):
        seen = 0
        for number, document in enumerate(SOUND):
            for program in some_programs(number, document):
                told = budget(document, program)
                for limit in (0, 1, 2, 3, 7):
                    if told is None or told > limit:
                        with self.assertRaises(NotEnough):
                            within(document, program, limit)
                        continue
                    found = within(document, program, limit)
                    self.assertEqual(normal(found), found)
                    self.assertTrue(plain.right(document, found))
                    bound = paid(found, program)
                    self.assertIsNotNone(bound)
                    self.assertLessEqual(bound, limit)
                    for word in plain.words(document[1], 4):
                        self.assertEqual(plain.trace(found, word)[0], self.answers_within(document, program, limit, word))
                    seen += bound > 0
        self.assertGreater(seen, 60)

    def answers_within(self, document, program, limit, word):
        """What within answers to a word, by its words."""
        known = costs(document, program)
        pair, left, told = (0, plain.first_stand(document)), limit, ()
        for call in word:
            row = moves(document, program, pair)[plain.calls(document[1]).index(call)]
            row = [(answer, own, there) for answer, own, there in row if there is not None and known[there] is not None]
            good = [(answer, there, left) for answer, own, there in row if own and known[there] <= left]
            good += [(answer, there, left - 1) for answer, own, there in row if not own and known[there] <= left - 1]
            answer, pair, left = good[0]
            told += (answer,)
        return told

    def test_first_other_answers(self):
        # z is dear, y is dearer, and x breaks; what is left tells which of them is given.
        rows = (("s", "c", (("y", "p"), ("z", "q"))), ("p", "c", (("y", "r"),)), ("q", "c", (("y", "t"),)), ("r", "c", (("y", "t"),)))
        road = document_of_clauses(THREE, ("clause", "road", ("s", "p", "q", "r", "t"), rows))
        program = ring(THREE, 1, ())
        self.assertEqual((budget(road, program), late_budget(road, program)), (2, 2))
        for limit, word in ((2, "zyxx"), (3, "yyyx"), (4, "yyyx")):
            found = within(road, program, limit)
            self.assertEqual("".join(plain.trace(found, ("c",) * 4)[0]), word)
            self.assertEqual(paid(found, program), 2 if limit == 2 else 3)
        # What was paid once cannot be paid again: two places at which one way is dear, and the other one cheap.
        rows = (("s", "c", (("x", "p"), ("y", "q"))), ("p", "c", (("y", "a"),)), ("a", "c", (("y", "q"),)),
                ("q", "c", (("x", "b"), ("y", "t"))), ("b", "c", (("y", "d"),)), ("d", "c", (("y", "t"),)))
        road = document_of_clauses(ONE, ("clause", "road", ("s", "p", "a", "q", "b", "d", "t"), rows))
        self.assertEqual((budget(road, ALWAYS), late_budget(road, ALWAYS)), (2, 3))
        for limit, word in ((2, "yyxxxxx"), (3, "xyyyxxx"), (4, "xyyxyyx"), (9, "xyyxyyx")):
            self.assertEqual("".join(plain.trace(within(road, ALWAYS, limit), ("c",) * 7)[0]), word)
            check_paper(self, road, ALWAYS, limit)

    def test_by_hand(self):
        self.assertEqual(mended(HAND, ALWAYS), ("program", ONE, ((("x", 1),), (("y", 1),))))
        self.assertEqual((budget(HAND, ALWAYS), late_budget(HAND, ALWAYS)), (1, None))
        self.assertEqual(within(HAND, ALWAYS, 1), ("program", ONE, ((("y", 1),), (("x", 1),))))
        self.assertEqual((budget(FIRST, TURNS), late_budget(FIRST, TURNS)), (None, None))
        with self.assertRaises(NotEnough):
            within(FIRST, TURNS, 999)
        self.assertEqual((budget(STORE_DOC, MADE), late_budget(STORE_DOC, MADE)), (0, 0))
        self.assertEqual(within(STORE_DOC, MADE, 0), MADE)
        self.assertEqual(within(STORE_DOC, MADE, 999), MADE)
        # Of x and then y for ever each program of x alone must pay on, but a program of y alone pays once.
        chain = samples.plus_chain(1)
        self.assertEqual(budget(chain, ring(ONE, 1, (0,))), 1)
        self.assertEqual(late_budget(chain, ring(ONE, 1, (0,))), 1)
        self.assertIsNone(budget(chain, ALWAYS))
        # Who leaves the program early pays less: x leads to where y must be said three times.
        rows = (("s", "c", (("x", "p"), ("y", "t"))), ("p", "c", (("y", "q"),)), ("q", "c", (("y", "r"),)),
                ("r", "c", (("y", "t"),)))
        road = document_of_clauses(ONE, ("clause", "road", ("s", "p", "q", "r", "t"), rows))
        self.assertEqual((budget(road, ALWAYS), late_budget(road, ALWAYS)), (1, 3))
        self.assertEqual(within(road, ALWAYS, 1), ("program", ONE, ((("y", 1),), (("x", 1),))))
        self.assertEqual(within(road, ALWAYS, 2), within(road, ALWAYS, 1))
        self.assertEqual(within(road, ALWAYS, 3), mended(road, ALWAYS))
        chain = samples.plus_chain(7)
        self.assertEqual(budget(chain, ring(ONE, 1, (0,))), 7)
        self.assertEqual(late_budget(chain, ring(ONE, 1, (0,))), 7)
        self.assertEqual(len(within(chain, ring(ONE, 1, (0,)), 7)[2]), 8)

    def test_errors(self):
        for asking in (budget, late_budget):
            for thing in ODD:
                if not plain.document_form(thing):
                    with self.assertRaises(BadDocument):
                        asking(thing, None)
                with self.assertRaises(BadProgram):
                    asking(QUARREL_DOC, thing)
            with self.assertRaises(OtherHouse):
                asking(QUARREL_DOC, MADE)
            with self.assertRaises(Unsound):
                asking(QUARREL_DOC, ALWAYS)
            self.assertEqual(asking(program=MADE, document=STORE_DOC), 0)
        for asking, rest in ((within, ()), (is_within, (None,)), (is_beyond, (None,)), (budget_paper, ())):
            for thing in ODD:
                if not plain.document_form(thing):
                    with self.assertRaises(BadDocument):
                        asking(thing, None, None, *rest)
                with self.assertRaises(BadProgram):
                    asking(QUARREL_DOC, thing, None, *rest)
                if not (plain.number(thing) and 0 <= thing <= 999):
                    with self.assertRaises(BadLimit):
                        asking(QUARREL_DOC, MADE, thing, *rest)
            for limit in (-1, 1000, True):
                with self.assertRaises(BadLimit):
                    asking(QUARREL_DOC, MADE, limit, *rest)
            with self.assertRaises(OtherHouse):
                asking(QUARREL_DOC, MADE, 0, *rest)
            with self.assertRaises(OtherHouse):
                asking(FREE_DOC, ring(TURNED, 1, ()), 999, *rest)
        with self.assertRaises(Unsound):
            within(QUARREL_DOC, ALWAYS, 0)
        with self.assertRaises(NotEnough):
            within(HAND, ALWAYS, 0)
        self.assertEqual(within(limit=0, program=MADE, document=STORE_DOC), MADE)


def stand_form(document, x):
    if not isinstance(x, tuple) or len(x) != len(document[2]):
        return False
    for clause, lot in zip(document[2], x):
        if not isinstance(lot, tuple) or not lot or not all(isinstance(place, str) and place in clause[2] for place in lot):
            return False
        if not plain.ascending([clause[2].index(place) for place in lot]):
            return False
    return True


def triple_form(document, program, x):
    if not isinstance(x, tuple) or len(x) != 3 or not plain.number(x[0]) or not 0 <= x[0] < len(program[2]):
        return False
    return stand_form(document, x[1]) and plain.number(x[2]) and x[2] >= 0


def behind(document, program, triple, call):
    """For each answer the triple behind it, None where the stand is broken, and whether nothing is left for it."""
    state, stand, left = triple
    own, to = program[2][state][plain.calls(document[1]).index(call)]
    found = []
    for answer in plain.answers_of(document[1], call):
        there = plain.stand_after(document, stand, call, answer)
        found.append((None if () in there else (to, there, left if answer == own else left - 1)))
    return found


def within_form(document, program, limit, thing):
    if not isinstance(thing, tuple) or not all(triple_form(document, program, x) for x in thing):
        return False
    if len(set(thing)) < len(thing) or (0, plain.first_stand(document), limit) not in thing:
        return False
    return all(any(there in thing for there in behind(document, program, triple, call) if there is not None)
               for triple in thing for call in plain.calls(document[1]))


def beyond_form(document, program, limit, thing):
    if not isinstance(thing, tuple):
        return False
    earlier = []
    for row in thing:
        if not isinstance(row, tuple) or len(row) != 4 or not triple_form(document, program, row[:3]):
            return False
        if not isinstance(row[3], str) or row[3] not in plain.calls(document[1]) or row[:3] in earlier:
            return False
        for there in behind(document, program, row[:3], row[3]):
            if there is not None and there[2] >= 0 and there not in earlier:
                return False
        earlier.append(row[:3])
    return (0, plain.first_stand(document), limit) in earlier


def check_paper(case, document, program, limit):
    told = budget_paper(document, program, limit)
    cost = costs(document, program)[(0, plain.first_stand(document))]
    good = cost is not None and cost <= limit
    case.assertEqual(len(told), 2)
    case.assertEqual(told[0], "within" if good else "beyond")
    case.assertTrue((within_form if good else beyond_form)(document, program, limit, told[1]))
    case.assertIs((is_within if good else is_beyond)(document, program, limit, told[1]), True)
    return told


class Spending(unittest.TestCase):
    def test_all(self):
        seen = {"within": 0, "beyond": 0}
        for number, document in enumerate(ALL):
            for program in some_programs(number, document, 23):
                for limit in (0, 1, 2, 5):
                    seen[check_paper(self, document, program, limit)[0]] += 1
                pairs = len(costs(document, program))
                # If one less than there are pairs is not enough, no limit is.
                last = budget_paper(document, program, pairs - 1)[0]
                self.assertEqual(last, budget_paper(document, program, pairs + 9)[0])
        self.assertGreater(min(seen.values()), 150)

    def test_by_hand(self):
        told = budget_paper(HAND, ALWAYS, 0)
        self.assertEqual(told[0], "beyond")
        self.assertTrue(is_beyond(HAND, ALWAYS, 0, ((0, (("p",),), 0, "c"), (0, (("s",),), 0, "c"))))
        self.assertFalse(is_beyond(HAND, ALWAYS, 0, ((0, (("s",),), 0, "c"), (0, (("p",),), 0, "c"))))
        self.assertTrue(is_within(HAND, ALWAYS, 1, ((0, (("s",),), 1), (0, (("q",),), 0))))
        self.assertFalse(is_within(HAND, ALWAYS, 2, ((0, (("s",),), 1), (0, (("q",),), 0))))
        for limit in (0, 1, 999):
            check_paper(self, FIRST, TURNS, limit) if limit < 9 else None
            self.assertTrue(is_beyond(FIRST, TURNS, limit, budget_paper(FIRST, TURNS, limit)[1]))
        # They want no sound document; what is broken is no row.
        self.assertEqual(check_paper(self, QUARREL_DOC, ALWAYS, 3)[0], "beyond")
        self.assertFalse(is_within(QUARREL_DOC, ALWAYS, 0, ((0, ((), (), ()), 0),)))
        self.assertFalse(is_beyond(QUARREL_DOC, ALWAYS, 0, ((0, ((), (), ()), 0, "c"),)))
        self.assertEqual(check_paper(self, samples.rank_chain(9), ALWAYS, 4)[0], "beyond")

    def test_stands_that_do_not_come(self):
        paper = ((0, (("s",),), 1), (0, (("q",),), 0), (0, (("p", "q"),), 4), (0, (("q",),), 4))
        self.assertTrue(is_within(HAND, ALWAYS, 1, paper))
        self.assertFalse(is_within(HAND, ALWAYS, 1, paper + ((0, (("p",),), 4),)))
        self.assertFalse(is_within(HAND, ALWAYS, 1, paper + ((0, (("q", "p"),), 4),)))

    def test_bent_papers(self):
        cases = [(document, program) for number, document in enumerate(ALL[::5])
                 for program in some_programs(number, document, 60)[:2]]
        for document, program in cases + [(HAND, ALWAYS), (FIRST, TURNS)]:
            for limit in (0, 1):
                told = budget_paper(document, program, limit)
                things = list(bent(told[1]))
                for thing in things[::1 + len(things) // 120] + ODD:
                    for many in (limit, 2):
                        self.assertIs(is_within(document, program, many, thing), within_form(document, program, many, thing))
                        self.assertIs(is_beyond(document, program, many, thing), beyond_form(document, program, many, thing))

    def test_equal_papers(self):
        for limit in (0, 3):
            self.assertEqual(budget_paper(HAND, ALWAYS, limit), budget_paper(limit=limit, program=ALWAYS, document=HAND))
        told = budget_paper(STORE_DOC, ring(STORE, 1, ()), 3)
        self.assertIs((is_within if told[0] == "within" else is_beyond)(
            thing=told[1], limit=3, program=ring(STORE, 1, ()), document=STORE_DOC), True)
        self.assertEqual(budget_paper(FREE_DOC, ring(TWO, 3, (1,)), 0)[0], "within")
        self.assertEqual(budget_paper(TWICE_DOC, ALWAYS, 999)[0], "beyond")


if __name__ == "__main__":
    unittest.main()
