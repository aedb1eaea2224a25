"""covers: claims, deals, covers and escapes [50]; narrow: narrower documents [51]."""

import random
import unittest
from itertools import product

from saidandasked.covers import cover, escape, is_cover, is_escape
from saidandasked.errors import BadDocument, BadDocuments, OtherHouse
from saidandasked.leads import broken_at
from saidandasked.meanings import alike
from saidandasked.narrow import apart, is_narrowing, narrowing
from tests import plain, samples
from tests.samples import (FREE_DOC, MADE, ODD, ONCE_DOC, ONE, QUARREL_DOC, STORE_DOC, TURNED, TWICE_DOC, TWO, bent,
                           one_place, ring)

SMALL = samples.small_documents()


def document_of_clauses(house, *clauses):
    return ("document", house, clauses)


def strict(seed, house, places=2, many=1):
    """A document that lets little, so that much breaks it."""
    draw = random.Random(seed)
    names = tuple(samples.free(places))
    clauses = [samples.drawn_clause(draw, house, "n" + letter, names, 0.8, 0.7 + draw.random()) for letter in "abc"[:many]]
    return ("document", house, tuple(clauses))


def drawn_cases(many, first=0):
    for seed in range(first, first + many):
        house = (ONE, TWO, TWO)[seed % 3]
        document = samples.drawn_document(seed, house, seed % 2)
        yield document, tuple(strict(seed * 5 + at, house, 1 + (seed + at) % 3) for at in range(1 + seed % 3))


def is_safe(document, stand):
    return () not in stand and plain.ranks(document, stand)[stand] is None


def safe_steps(document, stand):
    """The triples (call, answer, stand) behind which the stand is safe."""
    found = []
    for call, answer in plain.pairs(document[1]):
        there = plain.stand_after(document, stand, call, answer)
        if is_safe(document, there):
            found.append((call, answer, there))
    return found


def step(others, claim, triple, chosen):
    """The step of a claim, with these indexes alone; None if it is done."""
    call, answer, there = triple
    rest = []
    for at, stand in claim[1]:
        if at in chosen:
            behind = plain.stand_after(others[at], stand, call, answer)
            if () not in behind:
                rest.append((at, behind))
    return (there, tuple(rest)) if rest else None


def deals(document, others, claim):
    """For each deal the list of the claims to which it leads, None for what is done."""
    triples = safe_steps(document, claim[0])
    indexes = [at for at, _ in claim[1]]
    for told in product(triples, repeat=len(indexes)):
        dealt = {}
        for at, triple in zip(indexes, told):
            dealt.setdefault(triple, []).append(at)
        # Each call gets one answer alone.
        if len({triple[0] for triple in dealt}) == len(dealt):
            yield [step(others, claim, triple, chosen) for triple, chosen in dealt.items()]


def first_claim(document, others):
    return (plain.first_stand(document), tuple((at, plain.first_stand(other)) for at, other in enumerate(others)))


def claims_broken(document, others):
    """All claims that come from the first one, and those that can be broken altogether."""
    first = first_claim(document, others)
    leads = {}
    queue = [first]
    for claim in queue:
        leads[claim] = list(deals(document, others, claim))
        for there in {c for deal in leads[claim] for c in deal if c is not None}:
            if there not in queue:
                queue.append(there)
    broken = set()
    while True:
        new = {claim for claim in queue if claim not in broken
               and any(all(c is None or c in broken for c in deal) for deal in leads[claim])}
        if not new:
            return set(queue), broken
        broken |= new


def cover_form(document, others, thing):
    """is_cover by its words."""
    if not isinstance(thing, tuple):
        return False
    if not plain.sound(document):
        return thing == ()
    told = []
    for claim in thing:
        if not isinstance(claim, tuple) or len(claim) != 2 or not stand_form(document, claim[0]):
            return False
        if not is_safe(document, claim[0]) or not isinstance(claim[1], tuple) or not claim[1] or claim in told:
            return False
        for pair in claim[1]:
            if not isinstance(pair, tuple) or len(pair) != 2 or not plain.number(pair[0]):
                return False
            if not 0 <= pair[0] < len(others) or not stand_form(others[pair[0]], pair[1]) or () in pair[1]:
                return False
        if not plain.ascending([at for at, _ in claim[1]]):
            return False
        told.append(claim)
    if first_claim(document, others) not in told:
        return False
    return all(any(there in told for there in deal) for claim in told for deal in deals(document, others, claim))


def stand_form(document, stand):
    return isinstance(stand, tuple) and len(stand) == len(document[2]) and all(
        isinstance(lot, tuple) and all(isinstance(place, str) and place in clause[2] for place in lot)
        and plain.ascending([clause[2].index(place) for place in lot]) for clause, lot in zip(document[2], stand))


def escape_form(document, others, thing):
    if not isinstance(thing, tuple) or len(thing) != 2 or not plain.program_form(thing[0]):
        return False
    if thing[0][1] != document[1] or not plain.right(document, thing[0]):
        return False
    if not isinstance(thing[1], tuple) or len(thing[1]) != len(others):
        return False
    for other, word in zip(others, thing[1]):
        if not isinstance(word, tuple) or not all(isinstance(c, str) and c in plain.calls(document[1]) for c in word):
            return False
        told = plain.told_history(thing[0], word)
        if not word or plain.let(other, told) or not plain.let(other, told[:-1]):
            return False
    return True


class Covers(unittest.TestCase):
    def check(self, document, others):
        """Whether there is a cover; both sides are looked at."""
        told, way = cover(document, others), escape(document, others)
        if not plain.sound(document):
            self.assertEqual((told, way), ((), None))
            return True
        found, broken = claims_broken(document, others)
        self.assertEqual(told is None, first_claim(document, others) in broken)
        self.assertEqual(way is None, told is not None)
        if told is None:
            self.assertTrue(escape_form(document, others, way))
            self.assertIs(is_escape(document, others, way), True)
            self.assertFalse(is_cover(document, others, tuple(found - broken)))
        else:
            self.assertTrue(cover_form(document, others, told))
            self.assertIs(is_cover(document, others, told), True)
        return told is not None

    def test_all(self):
        seen = {}
        for document, others in drawn_cases(420):
            key = len(others), plain.sound(document), self.check(document, others)
            seen[key] = seen.get(key, 0) + 1
        for many in (1, 2, 3):
            for good in (True, False):
                self.assertGreater(seen.get((many, True, good), 0), 6, seen)

    def test_small(self):
        for at in range(0, len(SMALL), 3):
            others = tuple(SMALL[(at * 7 + 13 * k) % len(SMALL)] for k in range(1 + at % 3))
            self.check(SMALL[at], others)

    def test_programs(self):
        # No right program that is looked at breaks all others if there is a cover.
        for document, others in drawn_cases(150, 1000):
            covered = cover(document, others) is not None
            for program in list(plain.programs(document[1], 2))[:80]:
                if plain.right(document, program) and not any(plain.right(other, program) for other in others):
                    self.assertFalse(covered)

    def test_dealt_out_among_calls(self):
        # Each right program that answers c or d with x keeps one or the other.
        no_c, no_d = one_place("k", "c", "x"), one_place("k", "d", "x")
        others = (document_of_clauses(TWO, no_c), document_of_clauses(TWO, no_d))
        self.assertFalse(self.check(FREE_DOC, others))
        told = escape(FREE_DOC, others)
        self.assertEqual(told[1][0][-1:] + told[1][1][-1:], ("c", "d"))
        # What the one call answers, it answers to both.
        others = (document_of_clauses(TWO, no_c), document_of_clauses(TWO, one_place("k", "c", "y")))
        self.assertFalse(self.check(FREE_DOC, others))
        start = ("clause", "k", ("p", "q"), (("p", "c", (("x", "q"),)), ("p", "d", (("x", "q"), ("y", "q")))))
        other = ("clause", "k", ("p", "q"), (("p", "c", (("y", "q"),)), ("p", "d", (("x", "q"), ("y", "q")))))
        self.assertTrue(self.check(FREE_DOC, (document_of_clauses(TWO, start), document_of_clauses(TWO, other))))
        once = ("clause", "k", ("p", "q"), (("p", "c", (("x", "q"),)),))
        other = ("clause", "k", ("p", "q"), (("p", "c", (("y", "q"),)),))
        # Behind d, c is asked for the first time as well, and may be answered otherwise.
        self.assertFalse(self.check(FREE_DOC, (document_of_clauses(TWO, once), document_of_clauses(TWO, other))))
        # With one call alone nothing can be dealt out.
        free = document_of_clauses(ONE)
        both = tuple(document_of_clauses(ONE, ("clause", "k", ("p", "q"), (("p", "c", ((answer, "q"),)),))) for answer in "xy")
        self.assertTrue(self.check(free, both))
        self.assertFalse(self.check(free, both[:1]))

    def test_by_hand(self):
        self.assertEqual(cover(QUARREL_DOC, (QUARREL_DOC,)), ())
        self.assertTrue(is_cover(QUARREL_DOC, (TWICE_DOC,), ()))
        self.assertFalse(is_cover(TWICE_DOC, (TWICE_DOC,), ()))
        first = ((("p",),), ((0, (("p",),)),))
        second = ((("q",),), ((0, (("q",),)),))
        self.assertEqual(set(cover(TWICE_DOC, (TWICE_DOC,))), {first, second})
        self.assertTrue(is_cover(TWICE_DOC, (TWICE_DOC,), (second, first)))
        self.assertFalse(is_cover(TWICE_DOC, (TWICE_DOC,), (first, second, first)))
        self.assertFalse(is_cover(TWICE_DOC, (TWICE_DOC,), (first,)))
        self.assertFalse(is_cover(TWICE_DOC, (TWICE_DOC,), (second,)))
        self.assertEqual(escape(document_of_clauses(ONE), (TWICE_DOC,))[1], (("c", "c"),))

    def test_bent(self):
        for document, others in list(drawn_cases(40, 300)) + [(TWICE_DOC, (TWICE_DOC,)), (STORE_DOC, (STORE_DOC,) * 2)]:
            told = cover(document, others)
            if told is None or len(told) > 6:
                continue
            for thing in list(bent(told))[::3] + ODD:
                self.assertIs(is_cover(document, others, thing), cover_form(document, others, thing), thing)
        for document, others in drawn_cases(30, 400):
            told = escape(document, others)
            if told is not None and len(told[0][2]) < 5:
                for thing in list(bent(told))[::2] + ODD:
                    self.assertIs(is_escape(document, others, thing), escape_form(document, others, thing), thing)

    def test_parts_and_more(self):
        for document, others in drawn_cases(90, 600):
            told = cover(document, others)
            if not told or len(told) > 12:
                continue
            for at in range(len(told)):
                for thing in (told[:at] + told[at + 1:], told + told[at:at + 1], told[at:] + told[:at]):
                    self.assertIs(is_cover(document, others, thing), cover_form(document, others, thing))

    def test_stands_that_do_not_come(self):
        document = document_of_clauses(ONE, ("clause", "k", ("p", "q", "r"), (("p", "c", (("x", "p"),)), ("q", "c", ()))))
        first = ((("p",),), ((0, (("p",),)),))
        for stand, good in (((("r",),), False), ((("p", "r"),), False), ((("q",),), False), ((("p", "q"),), True)):
            self.assertIs(cover_form(document, (document,), (first, (stand, ((0, (("p",),)),)))), good)
            self.assertIs(is_cover(document, (document,), (first, (stand, ((0, (("p",),)),)))), good)
        more = ((("r",),), ((0, (("r",),)),))
        self.assertTrue(is_cover(document, (document,), (first, more)))
        self.assertFalse(is_cover(document, (document,), (first, ((("q",),), ((0, (("r",),)),)))))

    def test_order_of_rest(self):
        others = (TWICE_DOC, TWICE_DOC)
        told = cover(TWICE_DOC, others)
        first = first_claim(TWICE_DOC, others)
        self.assertIn(first, told)
        p, q = (("p",),), (("q",),)
        for rest, good in ((((0, p),), True), (((1, p),), True), (((1, p), (0, p)), False), (((0, p), (0, p)), False),
                           (((0, p), (0, q)), False), (((2, p),), False), (((-1, p),), False), (((0, ((),)),), False)):
            things = told + ((p, rest),), told + ((p, rest), (q, tuple((at, q) for at, _ in rest)))
            for thing in things:
                self.assertIs(is_cover(TWICE_DOC, others, thing), cover_form(TWICE_DOC, others, thing), rest)
            self.assertIs(is_cover(TWICE_DOC, others, things[1]), good)

    def test_unsound(self):
        # Though d has an answer that keeps for ever, no program keeps this one.
        clause = ("clause", "k", ("p", "q"), (("p", "c", ()), ("p", "d", (("x", "q"),))))
        document = document_of_clauses(TWO, clause)
        others = (document_of_clauses(TWO, one_place("k", "d", "y")),)
        self.assertEqual((cover(document, others), escape(document, others)), ((), None))
        program = ring(TWO, 1, ())
        self.assertFalse(is_escape(document, others, (program, (("d",),))))
        self.assertTrue(is_escape(FREE_DOC, others, (program, (("d",),))))
        self.assertTrue(is_escape(FREE_DOC, others, (program, (("c", "c", "d"),))))
        for word in ((), ("c",), ("d", "d"), ("d", "c")):
            self.assertFalse(is_escape(FREE_DOC, others, (program, (word,))))

    def test_errors(self):
        for asking, rest in ((cover, ()), (escape, ()), (is_cover, (None,)), (is_escape, (None,))):
            for thing in ODD:
                if not plain.document_form(thing):
                    for others in ((STORE_DOC,), None):
                        with self.assertRaises(BadDocument):
                            asking(thing, others, *rest)
                    with self.assertRaises(BadDocuments) as caught:
                        asking(STORE_DOC, (STORE_DOC, thing, thing), *rest)
                    self.assertEqual(caught.exception.at, 1)
                if not isinstance(thing, tuple) or not 1 <= len(thing) <= 3:
                    with self.assertRaises(BadDocuments) as caught:
                        asking(STORE_DOC, thing, *rest)
                    self.assertIsNone(caught.exception.at)
            for others in ([STORE_DOC], (STORE_DOC,) * 4, ()):
                with self.assertRaises(BadDocuments) as caught:
                    asking(STORE_DOC, others, *rest)
                self.assertIsNone(caught.exception.at)
            with self.assertRaises(OtherHouse):
                asking(FREE_DOC, (FREE_DOC, ("document", TURNED, ())), *rest)
            with self.assertRaises(BadDocuments) as caught:
                asking(FREE_DOC, (("document", TURNED, ()), None), *rest)
            self.assertEqual(caught.exception.at, 1)
        self.assertTrue(is_cover(thing=cover(others=(STORE_DOC,), document=STORE_DOC), others=(STORE_DOC,), document=STORE_DOC))
        self.assertIsNone(escape(others=(STORE_DOC,), document=STORE_DOC))
        self.assertFalse(is_escape(thing=(MADE, ((),)), others=(STORE_DOC,), document=STORE_DOC))


def held_pairs(one, other):
    """The pairs of stands behind what one holds, as met, each with its first history; and what breaks other."""
    first = plain.first_stand(one), plain.first_stand(other)
    found = {first: ()}
    queue = [first]
    breaks = []
    for here, there in queue:
        for call, answer, stand in safe_steps(one, here):
            behind = plain.stand_after(other, there, call, answer)
            way = found[(here, there)] + ((call, answer),)
            if () in behind:
                breaks.append(way)
            elif (stand, behind) not in found:
                found[(stand, behind)] = way
                queue.append((stand, behind))
    return queue, breaks


def narrowing_form(one, other, thing):
    if not isinstance(thing, tuple):
        return False
    told = []
    for pair in thing:
        if not isinstance(pair, tuple) or len(pair) != 2 or pair in told:
            return False
        if not stand_form(one, pair[0]) or not is_safe(one, pair[0]) or not stand_form(other, pair[1]) or () in pair[1]:
            return False
        told.append(pair)
    if plain.sound(one) and (plain.first_stand(one), plain.first_stand(other)) not in told:
        return False
    return all((stand, plain.stand_after(other, there, call, answer)) in told
               for here, there in told for call, answer, stand in safe_steps(one, here))


def order(house):
    """What histories are compared by."""
    number = {pair: at for at, pair in enumerate(plain.pairs(house))}
    return lambda told: (len(told), [number[pair] for pair in told])


class Narrow(unittest.TestCase):
    def check(self, one, other):
        told, way = narrowing(one, other), apart(one, other)
        if not plain.sound(one):
            self.assertEqual((told, way), ((), None))
            self.assertTrue(is_narrowing(one, other, ()))
            return True
        queue, breaks = held_pairs(one, other)
        if breaks:
            self.assertIsNone(told)
            self.assertEqual(way, min(breaks, key=order(one[1])))
            self.assertFalse(is_narrowing(one, other, tuple(queue)))
            return False
        self.assertIsNone(way)
        self.assertEqual(told, tuple(queue))
        self.assertIs(is_narrowing(one, other, told), True)
        self.assertTrue(narrowing_form(one, other, told))
        return True

    def pairs(self, many):
        for seed in range(many):
            house = (ONE, TWO, samples.WIDE)[seed % 3]
            yield samples.drawn_document(seed, house, 2), strict(seed, house, 1 + seed % 3)

    def test_all(self):
        seen = {True: 0, False: 0}
        for one, other in self.pairs(500):
            seen[self.check(one, other)] += 1
            both = self.check(one, other) and self.check(other, one)
            self.assertEqual(both, alike(one, other))
        self.assertTrue(min(seen.values()) > 60, seen)

    def test_small(self):
        for one, other in zip(SMALL, SMALL[101:]):
            narrower = self.check(one, other)
            self.assertEqual(narrower and self.check(other, one), alike(one, other))
            holds = [told for told in plain.histories(ONE, 3) if plain.held(one, told)]
            if narrower:
                self.assertTrue(all(plain.held(other, told) for told in holds))
            for program in list(plain.programs(ONE, 2))[::3]:
                if narrower and plain.right(one, program):
                    self.assertTrue(plain.right(other, program))

    def test_least_history(self):
        # The least one by pairs has an earlier answer first, whatever is called behind it.
        for one, other in self.pairs(200):
            way = apart(one, other)
            if way is not None and len(way) <= 3:
                good = [told for told in plain.histories(one[1], len(way)) if plain.held(one, told)
                        and broken_at(other, told) is not None and broken_at(other, told)[0] == len(told)]
                self.assertEqual(way, good[0])

    def test_papers(self):
        for one, other in list(self.pairs(90))[::2] + [(STORE_DOC, STORE_DOC), (ONCE_DOC, ONCE_DOC)]:
            told = narrowing(one, other)
            if not told or len(told) > 5:
                continue
            for thing in list(bent(told))[::2] + ODD + [told[::-1], told + told[:1], told[1:], told[:-1]]:
                self.assertIs(is_narrowing(one, other, thing), narrowing_form(one, other, thing), thing)

    def test_unsound(self):
        # Of a document that is not sound, safe stands may still be told, and then all that they lead to.
        clause = ("clause", "k", ("p", "q"), (("p", "c", (("x", "q"),)), ("p", "d", ())))
        one = document_of_clauses(TWO, clause)
        other = document_of_clauses(TWO, one_place("k", "c", "xy"))
        pair = ((("q",),), (("p",),))
        self.assertTrue(is_narrowing(one, other, (pair,)))
        self.assertTrue(is_narrowing(one, other, ()))
        self.assertFalse(is_narrowing(one, other, (((("p",),), (("p",),)),)))
        self.assertFalse(is_narrowing(one, document_of_clauses(TWO, one_place("k", "c", "x")), (pair,)))
        self.assertEqual(narrowing(one, other), ())
        self.assertIsNone(apart(one, other))
        # Stands that do not come may be told as well, if they are safe.
        places = ("clause", "k", ("p", "q", "r"), (("q", "c", (("x", "q"),)), ("r", "c", ())))
        one, other = document_of_clauses(TWO, places), document_of_clauses(TWO, one_place("k", "c", "x"))
        first = ((("p",),), (("p",),))
        for stand in ("p", "q", "r"):
            for goal in ("p", "q", "r"):
                thing = (((("p",),), (("p",),)), (((stand,),), ((goal,),)))
                self.assertIs(is_narrowing(one, one, thing), narrowing_form(one, one, thing))
        self.assertTrue(is_narrowing(one, one, (first, ((("q",),), (("q",),)))))
        self.assertTrue(is_narrowing(one, one, (first, ((("q",),), (("p",),)))))
        self.assertFalse(is_narrowing(one, one, (first, ((("p",),), (("q",),)))))
        self.assertFalse(is_narrowing(one, other, (first,)))

    def test_errors(self):
        turned = ("document", TURNED, ())
        for asking, rest in ((apart, ()), (narrowing, ()), (is_narrowing, (None,))):
            for thing in ODD:
                if not plain.document_form(thing):
                    with self.assertRaises(BadDocument):
                        asking(thing, None, *rest)
                    with self.assertRaises(BadDocument):
                        asking(FREE_DOC, thing, *rest)
            with self.assertRaises(OtherHouse):
                asking(FREE_DOC, turned, *rest)
        self.assertIsNone(apart(other=FREE_DOC, one=FREE_DOC))
        self.assertEqual(narrowing(other=FREE_DOC, one=FREE_DOC), (((), ()),))
        self.assertTrue(is_narrowing(thing=(((), ()),), other=FREE_DOC, one=FREE_DOC))


if __name__ == "__main__":
    unittest.main()
