"""mending: mended programs [90], editions [91]; carrying: papers that go over [96]; the facts of [97]."""

import random
import unittest

from saidandasked.budgets import budget
from saidandasked.carrying import carried
from saidandasked.entries import exchanged
from saidandasked.errors import (BadDocument, BadDocuments, BadLaw, BadPaper, BadProgram, ManyObjects, OtherHouse,
                                 Unsound)
from saidandasked.makers import made
from saidandasked.mending import first_change, lasts, mended, mended_along
from saidandasked.narrow import apart, is_narrowing, narrowing
from saidandasked.normals import normal, parting
from saidandasked.verdicts import is_law_verdict, law_verdict
from tests import plain, samples
from tests.samples import (THREE, COPIES, ENDLESS, FREE_DOC, MADE, ODD, ONE, QUARREL_DOC, STORE, STORE_DOC, TAKES, TURNED,
                           TWICE_DOC, TWO, bent, one_place, ring)
from tests.test_covers import document_of_clauses, strict
from tests.test_decided import documents, first_break_of

SMALL = samples.small_documents()


def wide_documents(many):
    """Sound documents with three answers, of which often two and sometimes all are let."""
    for seed in range(many):
        draw = random.Random(seed)
        places = tuple(samples.free(2 + seed % 4))
        rows = []
        for at, place in enumerate(places[:-1]):
            told = draw.choice(("x", "y", "z", "xy", "yz", "xz", "yz", "xyz"))
            rows.append((place, "c", tuple((answer, draw.choice(places[at:] if seed % 3 else places)) for answer in told)))
        document = document_of_clauses(THREE, ("clause", "wide", places, tuple(rows)))
        if plain.sound(document):
            yield document


SOUND = [document for document in list(documents(90)) + SMALL[::13] if plain.sound(document)] + list(wide_documents(40))


def mended_answers(document, program, word):
    """The answers of mended to a word, by the words of the document."""
    told = ()
    own = plain.trace(program, word)[0]
    for call, answer in zip(word, own):
        held = plain.held_answers(document, told, call)
        told += ((call, answer if answer in held else held[0]),)
    return tuple(answer for _, answer in told)


def some_programs(number, document, step=11):
    most = 3 if document[1] == ONE else 2
    programs = list(plain.programs(document[1], most))
    return programs[number % step::step * (4 if document[1] == ONE else 5 if document[1] == TWO else 1)]


class Mending(unittest.TestCase):
    def test_all(self):
        changed = [0, 0]
        for number, document in enumerate(SOUND):
            words = plain.words(document[1], 4)
            for program in some_programs(number, document):
                told = mended(document, program)
                self.assertTrue(plain.program_form(told))
                self.assertEqual(normal(told), told)
                self.assertTrue(plain.right(document, told))
                good = plain.right(document, program)
                for word in words:
                    self.assertEqual(plain.trace(told, word)[0], mended_answers(document, program, word))
                    # It stays with the program on the word and its beginnings just where a right program can.
                    stays = plain.trace(told, word)[0] == plain.trace(program, word)[0]
                    self.assertEqual(stays, plain.held(document, plain.told_history(program, word)))
                change = first_change(document, program)
                changed[good] += 1
                self.assertEqual(change, parting(program, told))
                self.assertEqual(change is None, good)
                self.assertEqual(told == normal(program), good)
                self.assertEqual(budget(document, program) == 0, good)
                found = exchanged(document, program, 0)
                self.assertEqual(found == ("program", program, None), good)
                if change is not None:
                    self.assertLessEqual(len(change), len(first_break_of(document, program)))
        self.assertGreater(min(changed), 100)

    def test_by_hand(self):
        clause = ("clause", "k", ("s", "p", "q"), (("s", "c", (("x", "p"), ("y", "q"))), ("p", "c", (("y", "p"),))))
        document, program = document_of_clauses(ONE, clause), ring(ONE, 1, ())
        self.assertEqual(mended(document, program), ("program", ONE, ((("x", 1),), (("y", 1),))))
        self.assertEqual(first_change(document, program), ("c", "c"))
        # A program's own answer hangs on the calls alone: it goes on as if it had been given.
        turns = ("program", ONE, ((("x", 1),), (("x", 2),), (("y", 0),)))
        self.assertEqual(plain.trace(mended(TWICE_DOC, turns), ("c",) * 7)[0], ("x", "y", "y", "x", "y", "y", "x"))
        self.assertEqual(mended(STORE_DOC, ring(STORE, 1, ())), MADE)
        self.assertEqual(first_change(STORE_DOC, ring(STORE, 1, ())), ("take",))
        self.assertIsNone(first_change(STORE_DOC, MADE))
        # An answer that breaks nothing yet, but leads to where nothing can be kept.
        doomed = document_of_clauses(TWO, ("clause", "k", ("s", "p"), (("s", "c", (("x", "p"), ("y", "s"))), ("p", "d", ()))))
        self.assertEqual(first_change(doomed, ring(TWO, 1, ())), ("c",))
        self.assertEqual(first_break_of(doomed, ring(TWO, 1, ())), ("c", "d"))
        self.assertEqual(mended(doomed, ring(TWO, 1, ())), ("program", TWO, ((("y", 0), ("x", 0)),)))

    def test_large(self):
        program = samples.drawn_program(3, STORE, 300)
        self.assertTrue(plain.program_form(mended(STORE_DOC, program)))
        self.assertIsNone(first_change(STORE_DOC, mended(STORE_DOC, program)))
        chain = samples.plus_chain(39)
        self.assertEqual(mended(chain, ring(ONE, 400, ())), made(chain))
        self.assertEqual(first_change(chain, ring(ONE, 400, ())), ("c",) * 40)

    def test_along(self):
        seen = set()
        for number in range(60):
            house = (ONE, TWO)[number % 2]
            editions = [strict(number * 7 + at, house, 1 + at % 3) for at in range(1 + number % 6)]
            for program in some_programs(number, editions[0], 40):
                expect = [at for at, document in enumerate(editions) if not plain.right(document, program)]
                self.assertEqual(lasts(editions, program), (expect + [len(editions)])[0])
                seen.add(lasts(editions, program))
                if all(plain.sound(document) for document in editions):
                    found = program
                    for document in editions:
                        found = mended(document, found)
                    self.assertEqual(mended_along(editions, program), found)
                    self.assertEqual(mended_along(tuple(editions), program), found)
                else:
                    with self.assertRaises(Unsound):
                        mended_along(editions, program)
        self.assertTrue({0, 1, 2} <= seen, seen)

    def leaves(self, program, other, most):
        """The words at which the first program leaves the other one."""
        return [word for word in plain.words(program[1], most) if word and plain.trace(program, word[:-1])[0] ==
                plain.trace(other, word[:-1])[0] and plain.trace(program, word)[0] != plain.trace(other, word)[0]]

    def test_narrower_editions(self):
        count = unlike = 0
        for number, document in enumerate(SOUND[::2]):
            editions = [document]
            for at in range(3):
                more = strict(number * 3 + at, document[1], 2)[2][0]
                clauses = editions[-1][2] + (("clause", "more" + "abc"[at]) + more[2:],)
                if plain.sound(("document", document[1], clauses)):
                    editions.append(("document", document[1], clauses))
            for program in some_programs(number, document, 17):
                along = mended_along(editions, program)
                last = mended(editions[-1], program)
                self.assertEqual(self.leaves(along, program, 4), self.leaves(last, program, 4))
                self.assertTrue(plain.right(editions[-1], along))
                count += len(editions) > 2
                unlike += along != last
        self.assertGreater(count, 60)
        self.assertGreater(unlike, 0)

    def test_errors(self):
        for asking in (mended, first_change):
            for thing in ODD:
                if not plain.document_form(thing):
                    with self.assertRaises(BadDocument):
                        asking(thing, None)
                with self.assertRaises(BadProgram):
                    asking(QUARREL_DOC, thing)
            with self.assertRaises(OtherHouse):
                asking(QUARREL_DOC, MADE)
            with self.assertRaises(Unsound):
                asking(QUARREL_DOC, ring(ONE, 1, ()))
            with self.assertRaises(OtherHouse):
                asking(FREE_DOC, ring(TURNED, 1, ()))
            self.assertEqual(asking(program=MADE, document=STORE_DOC), MADE if asking is mended else None)

    def test_errors_of_editions(self):
        for asking in (mended_along, lasts):
            for thing in ODD + [[], [STORE_DOC] * 7, STORE_DOC[:1] + (1,), {0: STORE_DOC}]:
                with self.assertRaises(BadDocuments) as caught:
                    asking(thing, None)
                is_list = isinstance(thing, (list, tuple)) and 1 <= len(thing) <= 6
                self.assertEqual(caught.exception.at, 0 if is_list else None, thing)
                with self.assertRaises(BadProgram):
                    asking([QUARREL_DOC, STORE_DOC], thing)
            for at in range(6):
                with self.assertRaises(BadDocuments) as caught:
                    asking([STORE_DOC] * at + [None] * (6 - at), None)
                self.assertEqual(caught.exception.at, at)
            for editions in ([QUARREL_DOC, STORE_DOC], [STORE_DOC, QUARREL_DOC]):
                with self.assertRaises(OtherHouse):
                    asking(editions, MADE)
            self.assertEqual(asking(program=MADE, documents=[STORE_DOC] * 6), MADE if asking is mended_along else 6)
        with self.assertRaises(Unsound):
            mended_along([TWICE_DOC, QUARREL_DOC], ring(ONE, 1, ()))
        self.assertEqual(lasts([QUARREL_DOC], ring(ONE, 1, ())), 0)


def carried_by_words(pairs, table, document):
    """The rows by the words of the document, as a dict from (node, stand) to the least rank."""
    found = {}
    for stand, source in pairs:
        for node, there, rank in table:
            if there == source:
                found[(node, stand)] = min(rank, found.get((node, stand), rank))

    def key(item):
        lots = tuple(tuple(clause[2].index(place) for place in lot) for clause, lot in zip(document[2], item[0][1]))
        return item[0][0], lots

    return tuple(site + (rank,) for site, rank in sorted(found.items(), key=key))


def narrower_pairs(many):
    """Pairs of sound documents, the second narrower than the first."""
    for seed in range(many):
        house = (ONE, TWO, STORE)[seed % 3]
        one = strict(seed, house, 1 + seed % 4) if seed % 3 < 2 else STORE_DOC
        more = strict(seed * 5 + 1, house, 1 + seed % 3)[2][0]
        other = document_of_clauses(house, *one[2][:1 if seed % 4 else 0], ("clause", "more") + more[2:])
        if plain.sound(one) and plain.sound(other) and apart(other, one) is None:
            yield seed, one, other


class Carrying(unittest.TestCase):
    def test_all(self):
        count = rows = 0
        for seed, one, other in narrower_pairs(260):
            for at in range(6):
                rule = samples.drawn_law(seed * 6 + at, one[1], 1, 2 + (seed + at) % 6)
                told = law_verdict(one, rule)
                if told[0] != "true":
                    continue
                count += 1
                pairs = narrowing(other, one)
                found = carried(one, other, rule, pairs, told[1])
                self.assertEqual(found, carried_by_words(pairs, told[1], other))
                self.assertTrue(is_law_verdict(other, rule, ("true", found)))
                self.assertEqual(law_verdict(other, rule)[0], "true")
                rows = max(rows, len(found))
                # Any other papers will do, in any sequence and with higher ranks.
                table = tuple((node, stand, rank * 2 + 1) for node, stand, rank in reversed(told[1]))
                self.assertEqual(carried(one, other, rule, tuple(reversed(pairs)), table), carried_by_words(pairs, table, other))
        self.assertGreater(count, 80)
        self.assertGreater(rows, 5)

    def test_least_ranks(self):
        # One stand of the narrower document goes with two stands of the other one, whose ranks are unlike.
        wide = document_of_clauses(ONE, ("clause", "k", ("s", "t"), (("s", "c", (("x", "t"), ("y", "t"))),)))
        free = document_of_clauses(ONE)
        rule = ("law", ONE, 1, (("ask", 0, "c", (1, 1)), ("true",)))
        pairs = (((), (("s",),)), ((), (("t",),)))
        self.assertTrue(is_narrowing(free, wide, pairs))
        table = ((0, (("s",),), 7), (0, (("t",),), 5), (1, (("t",),), 4), (1, (("s",),), 2))
        self.assertEqual(carried(wide, free, rule, pairs, table), ((0, (), 5), (1, (), 2)))
        self.assertEqual(carried(wide, free, rule, pairs[::-1], table[::-1]), ((0, (), 5), (1, (), 2)))
        self.assertTrue(is_law_verdict(free, rule, ("true", ((0, (), 5), (1, (), 2)))))
        self.assertEqual(carried(STORE_DOC, STORE_DOC, TAKES, narrowing(STORE_DOC, STORE_DOC), law_verdict(STORE_DOC, TAKES)[1]),
                         law_verdict(STORE_DOC, TAKES)[1])

    def test_pairs_with_stands_that_are_not_safe(self):
        # A narrowing may have pairs that do not come, with unbroken stands of the other document that are not safe.
        one = document_of_clauses(TWO, ("clause", "k", ("s", "t"), (("t", "c", ()),)))
        other = document_of_clauses(TWO)
        rule = ("law", TWO, 1, (("true",),))
        pairs = (((), (("s",),)),)
        self.assertEqual(carried(one, other, rule, pairs, ((0, (("s",),), 0),)), ((0, (), 0),))
        both = document_of_clauses(TWO, one_place("n", "c", "x"), ("clause", "k", ("s", "t"), (("s", "d", (("x", "s"),)),)))
        pairs = (((("p",), ("s",)), (("s",),)), ((("p",), ("t",)), (("s",),)))
        self.assertTrue(is_narrowing(both, one, pairs))
        self.assertEqual(carried(one, both, rule, pairs, ((0, (("s",),), 3),)),
                         ((0, (("p",), ("s",)), 3), (0, (("p",), ("t",)), 3)))

    def test_chains(self):
        count = 0
        for seed, one, other in narrower_pairs(150):
            more = strict(seed * 11 + 2, one[1], 2)[2][0]
            third = document_of_clauses(one[1], *other[2], ("clause", "third") + more[2:])
            if not plain.sound(third):
                continue
            for at in range(4):
                rule = samples.drawn_law(seed * 4 + at, one[1], 1, 2 + at)
                told = law_verdict(one, rule)
                if told[0] == "true":
                    first, second = narrowing(other, one), narrowing(third, other)
                    step = carried(other, third, rule, second, carried(one, other, rule, first, told[1]))
                    joined = tuple(dict.fromkeys((a, d) for a, b in second for c, d in first if b == c))
                    self.assertEqual(carried(one, third, rule, joined, told[1]), step)
                    count += 1
        self.assertGreater(count, 30)

    def test_bent_papers(self):
        for seed, one, other in list(narrower_pairs(40))[:9] + [(0, STORE_DOC, STORE_DOC)]:
            rule = TAKES if one[1] == STORE else samples.drawn_law(seed, one[1], 1, 3)
            told = law_verdict(one, rule)
            if told[0] != "true":
                continue
            pairs = narrowing(other, one)
            for thing in list(bent(pairs))[::3] + ODD:
                if is_narrowing(other, one, thing):
                    self.assertEqual(carried(one, other, rule, thing, told[1]), carried_by_words(thing, told[1], other))
                else:
                    with self.assertRaises(BadPaper) as caught:
                        carried(one, other, rule, thing, None)
                    self.assertEqual(caught.exception.word, "pairs")
            for thing in list(bent(told[1]))[::3] + ODD:
                if is_law_verdict(one, rule, ("true", thing)):
                    self.assertEqual(carried(one, other, rule, pairs, thing), carried_by_words(pairs, thing, other))
                else:
                    with self.assertRaises(BadPaper) as caught:
                        carried(one, other, rule, pairs, thing)
                    self.assertEqual(caught.exception.word, "table")

    def test_errors(self):
        pairs, table = narrowing(STORE_DOC, STORE_DOC), law_verdict(STORE_DOC, TAKES)[1]
        turned = ("document", TURNED, ())
        two = COPIES
        for thing in ODD:
            if not plain.document_form(thing):
                with self.assertRaises(BadDocument):
                    carried(thing, None, None, None, None)
                with self.assertRaises(BadDocument):
                    carried(STORE_DOC, thing, None, None, None)
            with self.assertRaises(BadLaw):
                carried(STORE_DOC, turned, thing, None, None)
        with self.assertRaises(ManyObjects):
            carried(STORE_DOC, turned, two, None, None)
        for one, other, rule in ((STORE_DOC, turned, TAKES), (turned, STORE_DOC, TAKES), (turned, turned, TAKES),
                                 (QUARREL_DOC, QUARREL_DOC, TAKES)):
            with self.assertRaises(OtherHouse):
                carried(one, other, rule, None, None)
        rule = ("law", ONE, 1, (("true",),))
        with self.assertRaises(Unsound):
            carried(TWICE_DOC, QUARREL_DOC, rule, (), None)
        with self.assertRaises(BadDocument):
            carried(None, STORE_DOC, TAKES, pairs, table)
        # Also if the law is of the house of one of both.
        with self.assertRaises(OtherHouse):
            carried(STORE_DOC, QUARREL_DOC, TAKES, pairs, table)
        with self.assertRaises(OtherHouse):
            carried(STORE_DOC, QUARREL_DOC, rule, pairs, table)
        with self.assertRaises(BadPaper) as caught:
            carried(QUARREL_DOC, TWICE_DOC, rule, narrowing(QUARREL_DOC, TWICE_DOC), ())
        self.assertEqual(caught.exception.word, "pairs")
        for rule in (ENDLESS, ("law", STORE, 1, (("false",),))):
            with self.assertRaises(BadPaper) as caught:
                carried(STORE_DOC, STORE_DOC, rule, pairs, table)
            self.assertEqual(caught.exception.word, "table")
        self.assertEqual(carried(table=table, pairs=pairs, rule=TAKES, other=STORE_DOC, one=STORE_DOC), table)


if __name__ == "__main__":
    unittest.main()
