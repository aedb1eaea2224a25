"""readings: open answers, readings and followers [55]; halves: half sentences and reasons [56]."""

import unittest
from itertools import product

from saidandasked.errors import (BadDocument, BadLaw, BadLaws, BadPool, BadProgram, NotTrue, OtherHouse, TooMany,
                                 Unsound)
from saidandasked.halves import halves, is_halves, reasons
from saidandasked.overs import over
from saidandasked.readings import follower, read_by, readings, unread
from saidandasked.verdicts import law_verdict
from tests import plain, samples
from tests.samples import (FREE_DOC, MADE, ODD, ONE, QUARREL_DOC, STORE, STORE_DOC, TAKES, TURNED, TWICE_DOC, TWO, bent,
                           one_place, ring)
from tests.test_covers import document_of_clauses, escape_form, strict
from tests.test_pools import least, named, sets, with_set

ASKING = ("house", (("call", "q", ("yes", "no")), ("call", "say", ("yes", "no"))))
SIDES = ("document", ASKING, (("clause", "side", ("start", "left", "right"), (
    ("start", "q", (("yes", "left"), ("yes", "right"))), ("left", "q", (("yes", "left"),)),
    ("left", "say", (("no", "left"),)), ("right", "q", (("no", "right"),)), ("right", "say", (("yes", "right"),)))),))
SIDED = ("program", ASKING, ((("yes", 1), ("yes", 0)), (("yes", 2), ("yes", 3)), (("yes", 2), ("no", 2)),
                             (("no", 3), ("yes", 3))))


def open_answers(document):
    found = []
    for clause in document[2]:
        for row in clause[3]:
            for answer in plain.answers_of(document[1], row[1]):
                places = [to for told, to in row[2] if told == answer]
                if len(places) > 1:
                    found.append((clause[1], row[0], row[1], answer, places))
    return found


def many_readings(document):
    many = 1
    for *_, places in open_answers(document):
        many *= len(places)
    return many


def all_readings(document):
    """The readings, one for each choice of a place of each open answer."""
    opened = open_answers(document)
    found = []
    for told in product(*[places for *_, places in opened]):
        chosen = {key[:4]: place for key, place in zip(opened, told)}
        clauses = []
        for clause in document[2]:
            rows = []
            for place, call, lets in clause[3]:
                kept = [(a, to) for a, to in lets if chosen.get((clause[1], place, call, a), to) == to]
                rows.append((place, call, tuple(kept)))
            clauses.append(clause[:3] + (tuple(rows),))
        found.append(("document", document[1], tuple(clauses)))
    return found


def followers(document, program):
    """For each clause the greatest set, by taking out what cannot go on."""
    found = []
    for clause in document[2]:
        rows = {(row[0], row[1]): row[2] for row in clause[3]}
        told = {(state, place) for state in range(len(program[2])) for place in clause[2]}
        while True:
            left = set()
            for state, place in told:
                good = True
                for call, (answer, to) in zip(plain.calls(document[1]), program[2][state]):
                    places = [place] if (place, call) not in rows else [p for a, p in rows[(place, call)] if a == answer]
                    good = good and any((to, there) in told for there in places)
                if good:
                    left.add((state, place))
            if left == told:
                break
            told = left
        if (0, clause[2][0]) not in told:
            return None
        found.append(tuple(sorted(told, key=lambda pair: (pair[0], clause[2].index(pair[1])))))
    return tuple(found)


def documents(many):
    for seed in range(many):
        house = (ONE, TWO, STORE)[seed % 3]
        draw = samples.random.Random(seed)
        clauses = []
        for letter in "ab"[:seed % 3]:
            places = tuple(samples.free(draw.randint(1, 3)))
            clauses.append(samples.drawn_clause(draw, house, "k" + letter, places, 0.7, 1.6))
        yield ("document", house, tuple(clauses))


class Readings(unittest.TestCase):
    def test_all(self):
        many = set()
        for document in documents(110):
            if many_readings(document) > 64:
                for asking, rest in ((readings, ()), (read_by, (ring(document[1], 1, ()),)), (unread, ())):
                    with self.assertRaises(TooMany):
                        asking(document, *rest)
                continue
            expect = all_readings(document)
            told = readings(document)
            self.assertEqual(told, tuple(expect))
            many.add(len(told))
            for program in list(plain.programs(document[1], 2))[::23][:8]:
                by = [at for at, one in enumerate(expect) if plain.right(one, program)]
                self.assertEqual(read_by(document, program), tuple(by))
                self.check_follower(document, program, by)
        self.assertGreaterEqual(len(many), 6, many)

    def check_follower(self, document, program, by):
        told = follower(document, program)
        self.assertEqual(told, followers(document, program))
        if by:
            self.assertIsNotNone(told)
        if told is not None:
            self.assertTrue(plain.right(document, program))

    def test_unread(self):
        seen = {True: 0, False: 0}
        for seed in range(150):
            draw = samples.random.Random(seed)
            many = draw.randint(2, 3)
            places = ("start",) + tuple(samples.free(many))
            rows = [("start", "c", tuple(("x", place) for place in places[1:]))]
            for place in places[1:]:
                for call in "cd":
                    lets = draw.choice(((("x", place),), (("y", place),), (("x", place), ("y", place))))
                    rows.append((place, call, lets))
            document = document_of_clauses(TWO, ("clause", "k", places, tuple(rows)))
            expect = all_readings(document)
            self.assertEqual(len(expect), many)
            told = unread(document)
            seen[told is None] += 1
            if told is not None:
                self.assertTrue(escape_form(document, tuple(expect), told))
                continue
            for program in list(plain.programs(document[1], 2))[::7]:
                self.assertEqual(plain.right(document, program), any(plain.right(one, program) for one in expect))
        self.assertGreater(min(seen.values()), 20, seen)
        for document in documents(200):
            if many_readings(document) > 3:
                with self.assertRaises(TooMany):
                    unread(document)
        one = document_of_clauses(ONE, ("clause", "k", ("p", "q", "r"), (
            ("p", "c", (("x", "q"), ("x", "r"))), ("q", "c", (("x", "q"),)), ("r", "c", (("y", "r"),)))))
        self.assertIsNone(unread(one))
        self.assertEqual(len(readings(one)), 2)
        told = unread(SIDES)
        self.assertTrue(escape_form(SIDES, tuple(all_readings(SIDES)), told))

    def test_by_hand(self):
        self.assertEqual(len(readings(SIDES)), 2)
        self.assertEqual(readings(SIDES)[0][2][0][3][0], ("start", "q", (("yes", "left"),)))
        self.assertTrue(plain.right(SIDES, SIDED))
        self.assertIsNone(follower(SIDES, SIDED))
        self.assertEqual(read_by(SIDES, SIDED), ())
        self.assertEqual(readings(STORE_DOC)[0][2][0][3][3], ("some", "take", (("ok", "empty"),)))
        self.assertEqual(readings(STORE_DOC)[1][2][0][3][3], ("some", "take", (("ok", "some"),)))
        self.assertEqual(read_by(STORE_DOC, MADE), (1,))
        self.assertEqual(follower(STORE_DOC, MADE), (((0, "empty"), (1, "some")),))
        self.assertEqual((readings(FREE_DOC), follower(FREE_DOC, ring(TWO, 2, ()))), ((FREE_DOC,), ()))
        self.assertIsNone(unread(FREE_DOC))
        self.assertEqual(read_by(QUARREL_DOC, ring(ONE, 1, ())), ())
        # States to which no word comes are told, too.
        lonely = ("program", STORE, MADE[2] + ((("ok", 1), ("none", 0)),))
        self.assertEqual(follower(STORE_DOC, lonely), (((0, "empty"), (1, "some"), (2, "empty")),))

    def test_the_last_place_changes_fastest(self):
        clause = ("clause", "k", ("p", "q"), (("p", "c", (("x", "p"), ("x", "q"), ("y", "p"), ("y", "q"))),
                                              ("q", "c", (("y", "p"), ("y", "q")))))
        told = [[row[2] for row in one[2][0][3]] for one in readings(document_of_clauses(ONE, clause))]
        self.assertEqual(told[0], [(("x", "p"), ("y", "p")), (("y", "p"),)])
        self.assertEqual(told[1], [(("x", "p"), ("y", "p")), (("y", "q"),)])
        self.assertEqual(told[2], [(("x", "p"), ("y", "q")), (("y", "p"),)])
        self.assertEqual(told[7], [(("x", "q"), ("y", "q")), (("y", "q"),)])

    def test_64_and_65(self):
        def many_of(sizes):
            """A document with open answers to so many places each."""
            places = tuple(samples.free(13))
            rows = [(places[at], "c", tuple(("x", to) for to in places[:many])) for at, many in enumerate(sizes)]
            return document_of_clauses(ONE, ("clause", "k", places, tuple(rows)))
        self.assertEqual(len(readings(many_of([2] * 6))), 64)
        self.assertEqual(len(readings(many_of([4, 1, 4, 4]))), 64)
        for sizes in ([13, 5], [2] * 7, [13] * 12):
            with self.assertRaises(TooMany):
                readings(many_of(sizes))
            with self.assertRaises(TooMany):
                read_by(many_of(sizes), ring(ONE, 1, ()))
        self.assertEqual(len(readings(many_of([3]))), 3)
        self.assertIsNone(unread(many_of([3])))
        with self.assertRaises(TooMany):
            unread(many_of([4]))
        self.assertEqual(read_by(many_of([2] * 6), ring(ONE, 1, ())), tuple(range(64)))

    def test_great_programs(self):
        places = tuple(samples.free(40))
        rows = tuple((place, "c", tuple(("x", to) for to in places[:3])) for place in places[:39])
        document = document_of_clauses(ONE, ("clause", "k", places, rows))
        self.assertEqual(len(follower(document, ring(ONE, 400, ()))[0]), 400 * 40)
        self.assertIsNone(follower(document_of_clauses(ONE, one_place("k", "c", "x")), ring(ONE, 400, (399,))))

    def test_errors(self):
        for thing in ODD:
            if not plain.document_form(thing):
                for asking, rest in ((readings, ()), (unread, ()), (read_by, (None,)), (follower, (None,))):
                    with self.assertRaises(BadDocument):
                        asking(thing, *rest)
            for asking in (read_by, follower):
                with self.assertRaises(BadProgram):
                    asking(STORE_DOC, thing)
        many = document_of_clauses(TWO, ("clause", "k", ("p", "q"), tuple(
            (place, call, (("x", "p"), ("x", "q"), ("y", "p"), ("y", "q"))) for place in "pq" for call in "cd")))
        with self.assertRaises(OtherHouse):
            read_by(many, ring(TURNED, 1, ()))
        with self.assertRaises(TooMany):
            read_by(many, ring(TWO, 1, ()))
        with self.assertRaises(OtherHouse):
            follower(FREE_DOC, ring(TURNED, 1, ()))
        self.assertEqual(readings(document=FREE_DOC), (FREE_DOC,))
        self.assertEqual(read_by(program=MADE, document=STORE_DOC), (1,))
        self.assertEqual(len(follower(program=MADE, document=STORE_DOC)), 1)
        self.assertIsNone(unread(document=FREE_DOC))


def true_over(document, rule):
    return law_verdict(document, rule)[0] == "true"


def half_cases(many):
    for seed in range(many):
        house = (ONE, TWO)[seed % 2]
        document = samples.drawn_document(seed, house, 1)
        pool = named(strict(seed + 7, house, 2, 3), "abc", "pool")[:1 + seed % 3]
        pool += named(samples.drawn_document(seed + 900, house, 2), "de", "pool")[:2]
        laws = tuple(samples.drawn_law(seed * 3 + at, house, 1 + (seed + at) % 2, 4) for at in range(1 + seed % 3))
        yield document, pool, laws


def halves_form(document, pool, laws, thing):
    """is_halves by its words."""
    if not isinstance(thing, tuple) or len(thing) != 3 or not all(isinstance(part, tuple) for part in thing):
        return False
    every = sets(len(pool))
    sound = [told for told in every if plain.sound(with_set(document, pool, told))]
    good = [told for told in sound if all(true_over(with_set(document, pool, told), rule) for rule in laws)]
    quarrels = least([told for told in every if told not in sound])
    if repr(thing[0]) != repr(least(good)) or repr(thing[2]) != repr(quarrels):
        return False
    for pair in thing[1]:
        if not isinstance(pair, tuple) or len(pair) != 2 or not plain.program_form(pair[0]):
            return False
        if not plain.number(pair[1]) or not 0 <= pair[1] < len(laws) or pair[0][1] != document[1]:
            return False
        if not plain.right(document, pair[0]) or over(pair[0], laws[pair[1]])[0] == "true":
            return False
    for told in every:
        if not any(set(part) <= set(told) for part in thing[0] + thing[2]):
            if not any(plain.right(with_set(document, pool, told), program) for program, _ in thing[1]):
                return False
    return True


class Halves(unittest.TestCase):
    def test_all(self):
        seen = set()
        for document, pool, laws in half_cases(140):
            told = halves(document, pool, laws)
            self.assertTrue(halves_form(document, pool, laws, told))
            self.assertIs(is_halves(document, pool, laws, told), True)
            seen.add(tuple(min(len(part), 2) for part in told))
            for chosen in sets(len(pool)):
                joint = with_set(document, pool, chosen)
                good = plain.sound(joint) and all(true_over(joint, rule) for rule in laws)
                has = any(set(part) <= set(chosen) for part in told[0])
                self.assertEqual(good, has and not any(set(part) <= set(chosen) for part in told[2]))
        self.assertGreater(len(seen), 9, seen)

    def test_bent(self):
        for document, pool, laws in half_cases(24):
            told = halves(document, pool, laws)
            if sum(len(program[2]) for program, _ in told[1]) > 5:
                continue
            for thing in [told] + list(bent(told))[::9] + ODD:
                self.assertIs(is_halves(document, pool, laws, thing), halves_form(document, pool, laws, thing), thing)
            for at in range(len(told[1])):
                fewer = told[1][:at] + told[1][at + 1:]
                for pairs in (fewer, told[1] + told[1][at:at + 1], told[1][::-1]):
                    thing = (told[0], pairs, told[2])
                    self.assertIs(is_halves(document, pool, laws, thing), halves_form(document, pool, laws, thing))
            for thing in ((told[0] + ((0,),), *told[1:]), (told[0][::-1], *told[1:]), (told[0], told[1], told[2] + ((),))):
                self.assertIs(is_halves(document, pool, laws, thing), halves_form(document, pool, laws, thing))

    def test_by_hand(self):
        free = document_of_clauses(ONE)
        pool = (one_place("one", "c", "x"), one_place("two", "c", "y"), TWICE_DOC[2][0])
        never_y = ("law", ONE, 1, (("ask", 0, "c", (1, 2)), ("true",), ("false",)))
        goods, bads, quarrels = halves(free, pool, (never_y,))
        self.assertEqual((goods, quarrels), (((0,),), ((0, 1), (0, 2))))
        # Of all that is neither good nor quarrels, {two, twice} is the greatest.
        self.assertEqual([at for _, at in bads], [0])
        self.assertEqual(bads[0][0], ("program", ONE, ((("y", 0),),)))
        self.assertTrue(is_halves(free, pool, (never_y,), (goods, bads + bads, quarrels)))
        for thing in ([goods, bads, quarrels], (list(goods), bads, quarrels), (goods, list(bads), quarrels),
                      (goods, bads, list(quarrels)), (goods, (list(bads[0]),), quarrels), (goods, (), quarrels)):
            self.assertFalse(is_halves(free, pool, (never_y,), thing))
        # The index of a law that is false over the program is as good as another one.
        again = ("law", ONE, 1, (("false",),))
        self.assertTrue(is_halves(free, pool, (never_y, never_y), (goods, ((bads[0][0], 1),), quarrels)))
        self.assertEqual(halves(free, (), (again,))[0], ())
        self.assertEqual(halves(free, (), (("law", ONE, 1, (("true",),)),)), (((),), (), ()))
        self.assertEqual(halves(QUARREL_DOC, (), (again,)), ((), (), ((),)))
        self.assertFalse(is_halves(free, (), (("law", ONE, 1, (("true",),)),), (((),), (), ((False,),))))

    def test_endless_laws_are_not_true(self):
        free = document_of_clauses(ONE)
        again = ("law", ONE, 1, (("ask", 0, "c", (0, 1)), ("true",)))
        told = halves(free, (one_place("two", "c", "y"),), (again,))
        self.assertEqual((told[0], told[2]), (((0,),), ()))
        self.assertEqual(over(told[1][0][0], again)[0], "never")
        self.assertTrue(is_halves(free, (one_place("two", "c", "y"),), (again,), told))

    def test_reasons(self):
        found = set()
        for seed in range(200):
            document = strict(seed, (ONE, TWO)[seed % 2], 2, seed % 5)
            rule = samples.drawn_law(seed, document[1], 1 + seed % 2, 3)
            if not plain.sound(document):
                for other in (rule, None, TAKES):
                    with self.assertRaises(Unsound):
                        reasons(document, other)
                continue
            word = law_verdict(document, rule)[0]
            if word != "true":
                with self.assertRaises(NotTrue) as caught:
                    reasons(document, rule)
                self.assertEqual(caught.exception.word, word)
                continue
            good = [told for told in sets(len(document[2]))
                    if true_over(with_set(document_of_clauses(document[1]), document[2], told), rule)]
            told = reasons(document, rule)
            self.assertEqual(told, least(good))
            found.add(told)
        self.assertGreater(len(found), 3, found)
        six = document_of_clauses(ONE, *[one_place("n" + letter, "c", "x") for letter in "abcdef"])
        rule = ("law", ONE, 1, (("ask", 0, "c", (1, 2)), ("true",), ("false",)))
        with self.assertRaises(TooMany):
            reasons(six, rule)
        with self.assertRaises(NotTrue):
            reasons(six, ("law", ONE, 1, (("false",),)))
        self.assertEqual(reasons(document_of_clauses(ONE, *six[2][:3]), rule), ((0,), (1,), (2,)))
        self.assertEqual(reasons(document_of_clauses(ONE, *six[2][:5]), rule), ((0,), (1,), (2,), (3,), (4,)))

    def test_errors(self):
        good = ("law", ONE, 1, (("true",),))
        free = document_of_clauses(ONE)
        for asking, rest in ((halves, ()), (is_halves, (None,))):
            for thing in ODD:
                if not plain.document_form(thing):
                    with self.assertRaises(BadDocument):
                        asking(thing, None, None, *rest)
                if thing != ():
                    with self.assertRaises(BadPool):
                        asking(free, thing, None, *rest)
                if not isinstance(thing, tuple) or not 1 <= len(thing) <= 3:
                    with self.assertRaises(BadLaws) as caught:
                        asking(free, (), thing, *rest)
                    self.assertIsNone(caught.exception.at)
                with self.assertRaises(BadLaws) as caught:
                    asking(free, (), (good, thing), *rest)
                self.assertEqual(caught.exception.at, 1)
            for laws in ([good], (good,) * 4, ()):
                with self.assertRaises(BadLaws) as caught:
                    asking(free, (), laws, *rest)
                self.assertIsNone(caught.exception.at)
            with self.assertRaises(OtherHouse):
                asking(free, (), (good, ("law", TWO, 1, (("true",),))), *rest)
            many = document_of_clauses(ONE, *[one_place("n" + letter, "c", "x") for letter in "abcdefgh"])
            with self.assertRaises(TooMany):
                asking(many, (one_place("m", "c", "x"),), (good,), *rest)
        for thing in ODD:
            if not plain.document_form(thing):
                with self.assertRaises(BadDocument):
                    reasons(thing, None)
            with self.assertRaises(BadLaw):
                reasons(free, thing)
        with self.assertRaises(OtherHouse):
            reasons(free, ("law", TWO, 1, (("true",),)))
        self.assertEqual(halves(laws=(good,), pool=(), document=free), (((),), (), ()))
        self.assertTrue(is_halves(thing=(((),), (), ()), laws=(good,), pool=(), document=free))
        self.assertEqual(reasons(rule=good, document=free), ((),))


if __name__ == "__main__":
    unittest.main()
