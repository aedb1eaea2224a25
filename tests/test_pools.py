"""pools: which clauses are enough [52]; meets: both, either [53] and what mixes them [54]."""

import unittest
from itertools import combinations

from saidandasked.clauses import clause_names
from saidandasked.errors import BadDocument, BadPool, BadSet, OtherHouse, SameName, TooMany, Unsound
from saidandasked.meanings import alike, document_of, meaning
from saidandasked.meets import both, either, mixing, mixing_place
from saidandasked.narrow import apart
from saidandasked.pools import cores, enough, idle, silent, with_clauses
from saidandasked.quarrels import quarrels
from tests import plain, samples
from tests.samples import FREE_DOC, ODD, ONE, QUARREL_DOC, STORE, STORE_CLAUSE, STORE_DOC, TURNED, TWICE_DOC, TWO, one_place
from tests.test_covers import document_of_clauses, escape_form, held_pairs, strict


def sets(many):
    """All sets of so many indexes, with fewer ones first, then by indexes."""
    return [told for size in range(many + 1) for told in combinations(range(many), size)]


def narrower(one, other):
    """By a plain walk: all that one holds, other lets."""
    return not plain.sound(one) or not held_pairs(one, other)[1]


def with_set(document, pool, chosen):
    return ("document", document[1], document[2] + tuple(pool[at] for at in chosen))


def least(good):
    return tuple(told for told in good if not any(set(part) < set(told) for part in good))


def named(document, letters, prefix):
    """The clauses of a document, named anew."""
    return tuple(("clause", prefix + letter, *clause[2:]) for letter, clause in zip(letters, document[2]))


def cases(many):
    """Documents with a pool and a wanted document."""
    for seed in range(many):
        house = (ONE, TWO)[seed % 2]
        document = samples.drawn_document(seed, house, 1)
        pool = named(strict(seed + 7, house, 2, 3), "abc", "pool")[:seed % 4]
        pool += named(samples.drawn_document(seed + 900, house, 2), "de", "pool")[:2]
        yield document, pool, strict(seed + 50, house, 2, 1 + seed % 2) if seed % 3 else with_set(document, pool, (0,) if pool else ())


class Pools(unittest.TestCase):
    def test_enough_and_silent(self):
        found = {}
        for document, pool, wanted in cases(160):
            good = [told for told in sets(len(pool)) if narrower(with_set(document, pool, told), wanted)]
            self.assertEqual(enough(document, pool, wanted), least(good))
            bad = [told for told in sets(len(pool)) if told not in good]
            greatest = [told for told in bad if not any(set(told) < set(other) for other in bad)]
            shown = silent(document, pool, wanted)
            self.assertIs(type(shown), tuple)
            self.assertEqual([told for told, _ in shown], greatest)
            for told, program in shown:
                self.assertTrue(plain.right(with_set(document, pool, told), program))
                self.assertFalse(plain.right(wanted, program))
            # The heart: the programs tell of all sets whether they are enough.
            for told in sets(len(pool)):
                broken = all(not all(plain.right(document_of_clauses(document[1], pool[at]), program) for at in told)
                             for _, program in shown)
                self.assertEqual(broken, told in good)
            key = len(least(good)), len(greatest)
            found[key] = found.get(key, 0) + 1
        self.assertGreater(len(found), 4, found)

    def test_by_hand(self):
        one, two, three = QUARREL_DOC[2]
        free = document_of_clauses(ONE)
        self.assertEqual(enough(free, (), free), ((),))
        self.assertEqual(silent(free, (), free), ())
        self.assertEqual(enough(free, (), QUARREL_DOC), ())
        self.assertEqual([told for told, _ in silent(free, (), QUARREL_DOC)], [()])
        self.assertEqual(enough(free, (one, two, three), QUARREL_DOC), ((0, 1), (1, 2)))
        self.assertEqual([told for told, _ in silent(free, (one, two, three), QUARREL_DOC)], [(1,), (0, 2)])
        self.assertEqual(enough(document_of_clauses(ONE, two), (one, three), QUARREL_DOC), ((0,), (1,)))
        self.assertEqual(with_clauses(free, (one, two), (1,)), document_of_clauses(ONE, two))
        self.assertEqual(with_clauses(STORE_DOC, (), ()), STORE_DOC)

    def test_with_clauses(self):
        for document, pool, _ in cases(40):
            for told in sets(len(pool)):
                self.assertEqual(with_clauses(document, pool, told), with_set(document, pool, told))
        many = document_of_clauses(ONE, *[one_place("n" + letter, "c", "x") for letter in "abcdefg"])
        pool = tuple(one_place("m" + letter, "c", "x") for letter in "abcde")
        self.assertEqual(len(with_clauses(many, pool, (3,))[2]), 8)
        for chosen in ((0, 1), (0, 1, 2, 3, 4)):
            with self.assertRaises(TooMany):
                with_clauses(many, pool, chosen)
        for asking in (enough, silent):
            self.assertIsInstance(asking(many, pool[:1], many), tuple)
            with self.assertRaises(TooMany):
                asking(many, pool[:2], many)
            with self.assertRaises(OtherHouse):
                asking(many, pool[:2], FREE_DOC)

    def test_cores_and_idle(self):
        for seed in range(120):
            document = strict(seed, (ONE, TWO)[seed % 2], 2, seed % 4)
            if seed % 3 == 0 and document[2]:
                document = document_of_clauses(document[1], *document[2], ("clause", "again", *document[2][0][2:]))
            told, out = cores(document), idle(document)
            parts = sets(len(document[2]))
            good = [lot for lot in parts if narrower(with_set(document_of_clauses(document[1]), document[2], lot), document)]
            self.assertEqual(told, least(good))
            free = [at for at in range(len(document[2])) if alike(
                ("document", document[1], document[2][:at] + document[2][at + 1:]), document)]
            self.assertEqual(out, tuple(free))
            for at in range(len(document[2])):
                self.assertEqual(all(at in lot for lot in told), at not in out)
            if not plain.sound(document):
                names = clause_names(document)
                self.assertEqual(tuple(tuple(names[at] for at in lot) for lot in told), quarrels(document))
        # Of two idle clauses perhaps only one can be left out.
        same = document_of_clauses(ONE, one_place("k", "c", "x"), one_place("l", "c", "x"))
        self.assertEqual((idle(same), cores(same)), ((0, 1), ((0,), (1,))))
        self.assertEqual((idle(FREE_DOC), cores(FREE_DOC)), ((), ((),)))
        six = document_of_clauses(ONE, *[one_place("n" + letter, "c", "x") for letter in "abcdef"])
        self.assertEqual(idle(six), (0, 1, 2, 3, 4, 5))
        with self.assertRaises(TooMany):
            cores(six)
        self.assertEqual(cores(document_of_clauses(ONE, *six[2][:5])), tuple((at,) for at in range(5)))

    def test_errors(self):
        one, two, _ = QUARREL_DOC[2]
        free = document_of_clauses(ONE)
        for thing in ODD:
            if plain.document_form(thing):
                continue
            for asking, rest in ((with_clauses, (None, None)), (enough, (None, None)), (silent, (None, None)),
                                 (cores, ()), (idle, ())):
                with self.assertRaises(BadDocument):
                    asking(thing, *rest)
            for asking in (enough, silent):
                with self.assertRaises(BadDocument):
                    asking(free, (), thing)
        wrong = [thing for thing in ODD if thing != ()] + [
            [one], (one, one), (one, None), (one, ("clause", "one", ("p",), ())), tuple(
                one_place("n" + letter, "c", "x") for letter in "abcdef"), (STORE_CLAUSE,), one, (list(one),)]
        for pool in wrong:
            for asking in (with_clauses, enough, silent):
                with self.assertRaises(BadPool):
                    asking(free, pool, None)
        for asking in (with_clauses, enough, silent):
            with self.assertRaises(BadPool):
                asking(document_of_clauses(ONE, one), (one,), ())
        for chosen in ODD + [(0, 0), (1, 0), (2,), (-1,), [0], (0, True), (None,)]:
            if chosen not in ((), (1,)) or isinstance(chosen, list):
                with self.assertRaises(BadSet):
                    with_clauses(free, (one, two), chosen)
        self.assertEqual(with_clauses(chosen=(0,), pool=(one,), document=free), document_of_clauses(ONE, one))
        self.assertEqual(enough(wanted=free, pool=(one,), document=free), ((),))
        self.assertEqual(silent(wanted=free, pool=(one,), document=free), ())
        self.assertEqual(cores(document=free), ((),))
        self.assertEqual(idle(document=free), ())


def document_pairs(many):
    for seed in range(many):
        house = (ONE, TWO, TWO)[seed % 3]
        yield strict(seed, house, 1 + seed % 3, seed % 2 + 1), strict(seed + 300, house, 1 + seed % 2)


def held(document, told):
    return plain.sound(document) and plain.held(document, told)


class Meets(unittest.TestCase):
    def test_both(self):
        for one, other in document_pairs(150):
            other = document_of_clauses(other[1], *named(other, "abc", "other"))
            told = both(one, other)
            self.assertEqual(told, ("document", one[1], one[2] + other[2]))
            self.assertTrue(narrower(told, one) and narrower(told, other))
            for program in list(plain.programs(one[1], 2))[::5]:
                self.assertEqual(plain.right(told, program), plain.right(one, program) and plain.right(other, program))
            for third, _ in document_pairs(9):
                if third[1] == one[1] and narrower(third, one) and narrower(third, other):
                    self.assertTrue(narrower(third, told))

    def test_same_names(self):
        a, b, c = [one_place(name, "c", "x") for name in "abc"]
        other = one_place("b", "c", "y")
        self.assertEqual(both(document_of_clauses(ONE, a, b), document_of_clauses(ONE, c, b)), document_of_clauses(ONE, a, b, c))
        self.assertEqual(both(TWICE_DOC, TWICE_DOC), TWICE_DOC)
        with self.assertRaises(SameName) as caught:
            both(document_of_clauses(ONE, a, b), document_of_clauses(ONE, c, other, a))
        self.assertEqual(caught.exception.name, "b")
        with self.assertRaises(SameName) as caught:
            both(document_of_clauses(ONE, a, b), document_of_clauses(ONE, other, one_place("a", "c", "y")))
        self.assertEqual(caught.exception.name, "b")
        many = document_of_clauses(ONE, *[one_place("n" + letter, "c", "x") for letter in "abcdefgh"])
        self.assertEqual(both(many, document_of_clauses(ONE, many[2][4])), many)
        with self.assertRaises(TooMany):
            both(many, document_of_clauses(ONE, a))
        with self.assertRaises(SameName):
            both(many, document_of_clauses(ONE, a, one_place("na", "c", "y")))

    def test_either(self):
        known = 0
        for one, other in document_pairs(250):
            if not plain.sound(one) and not plain.sound(other):
                for asking in (either, mixing):
                    with self.assertRaises(Unsound):
                        asking(one, other)
                continue
            known += 1
            told = either(one, other)
            self.assertEqual(clause_names(told), ["either"])
            self.assertEqual(document_of(meaning(told), "either"), told)
            for history in plain.histories(one[1], 3 if one[1] == ONE else 2):
                self.assertEqual(held(told, history), held(one, history) or held(other, history))
            self.assertTrue(narrower(one, told) and narrower(other, told))
            self.assertTrue(alike(either(other, one), told))
            if plain.sound(one) and plain.sound(other):
                third = either(told, one)
                self.assertTrue(alike(third, told))
        self.assertGreater(known, 150)

    def test_either_with_many_places(self):
        # Joined, the two go on side by side: as many places as the product of both.
        def ring_of(many, name):
            places = tuple(samples.free(many))
            rows = [(place, "c", (("x", places[(at + 1) % many]),) + ((("y", places[(at + 1) % many]),) if at == 0 else ()))
                    for at, place in enumerate(places)]
            return document_of_clauses(ONE, ("clause", name, places, tuple(rows)))
        with self.assertRaises(TooMany):
            either(ring_of(6, "k"), ring_of(7, "l"))
        self.assertLessEqual(len(either(ring_of(3, "k"), ring_of(4, "l"))[2][0][2]), 40)
        line = samples.plus_chain(39)
        self.assertEqual(len(either(line, line)[2][0][2]), 40)

    def test_mixing(self):
        seen = {}
        for one, other in document_pairs(260):
            place = mixing_place(one, other)
            self.assertEqual(place, self.place(one, other))
            if not plain.sound(one) and not plain.sound(other):
                self.assertIsNone(place)
                continue
            way = mixing(one, other)
            self.assertEqual(place is None, way is None)
            if way is not None:
                self.assertTrue(escape_form(either(one, other), (one, other), way))
            elif len(one[1][1]) == 1:
                for program in plain.programs(one[1], 2):
                    good = plain.right(one, program) or plain.right(other, program)
                    self.assertEqual(good, plain.right(either(one, other), program))
            seen[way is None] = seen.get(way is None, 0) + 1
        self.assertGreater(min(seen.values()), 20, seen)

    def place(self, one, other):
        """mixing_place by its words: pairs of stands behind the histories that both hold, as met."""
        if not plain.sound(one) or not plain.sound(other):
            return None
        first = plain.first_stand(one), plain.first_stand(other)
        found, queue = {first: ()}, [first]
        leads = {}
        for pair in queue:
            leads[pair] = {}
            for call, answer in plain.pairs(one[1]):
                there = tuple(plain.stand_after(document, stand, call, answer) for document, stand in zip((one, other), pair))
                safe = tuple(() not in stand and plain.ranks(document, stand)[stand] is None
                             for document, stand in zip((one, other), there))
                leads[pair].setdefault(call, []).append((there, safe))
                if safe == (True, True) and there not in found:
                    found[there] = found[pair] + ((call, answer),)
                    queue.append(there)

        def alone(pair, call, side, seen):
            """Whether something that goes on with the call is held by this side alone."""
            for there, safe in leads[pair][call]:
                if safe[side] and not safe[1 - side]:
                    return True
                if safe == (True, True) and there not in seen:
                    seen.add(there)
                    if any(alone(there, more, side, seen) for more in plain.calls(one[1])):
                        return True
            return False
        for pair in queue:
            for call in plain.calls(one[1]):
                for second in plain.calls(one[1]):
                    if call != second and alone(pair, call, 0, set()) and alone(pair, second, 1, set()):
                        return found[pair], call, second
        return None

    def test_mixing_by_hand(self):
        only_c = document_of_clauses(TWO, one_place("k", "c", "x"))
        only_d = document_of_clauses(TWO, one_place("k", "d", "x"))
        # The first alone holds what answers y to d, the other what answers y to c, at once or later.
        self.assertEqual(mixing_place(only_c, only_d), ((), "c", "d"))
        self.assertEqual(mixing_place(only_d, only_c), ((), "c", "d"))
        self.assertIsNone(mixing_place(only_c, FREE_DOC))
        self.assertIsNone(mixing(only_c, FREE_DOC))
        later = ("clause", "k", ("p", "q"), (("p", "c", (("x", "p"),)), ("p", "d", (("x", "q"), ("y", "q")))))
        self.assertEqual(mixing_place(only_d, document_of_clauses(TWO, later)), ((), "c", "d"))
        self.assertEqual(mixing_place(document_of_clauses(TWO, later), only_d), ((), "d", "c"))
        # Each alone holds something, but only behind the same call; what neither holds is nobody's.
        sides = [document_of_clauses(TWO, ("clause", "k", ("p", "q"), (("p", "c", ((answer, "q"),)), ("p", "d", (("x", "q"),)))))
                 for answer in "xy"]
        self.assertIsNone(mixing_place(*sides))
        self.assertIsNone(mixing(*sides))
        # Told apart only later: behind (d, x) the calls are as at first.
        later = [document_of_clauses(TWO, ("clause", "k", ("o", "p", "q"), (
            ("o", "c", (("y", "q"),)), ("o", "d", (("x", "p"),)), ("p", call, (("y", "q"),))))) for call in "cd"]
        self.assertEqual(mixing_place(*later), self.place(*later))
        self.assertEqual(mixing_place(*later), ((("d", "x"),), "c", "d"))
        self.assertIsNotNone(mixing(*later))
        unsound = document_of_clauses(TWO, one_place("k", "c", ""))
        self.assertIsNone(mixing(only_c, unsound))
        self.assertIsNone(mixing_place(unsound, only_c))
        self.assertIsNone(mixing_place(unsound, unsound))
        self.assertEqual(either(unsound, only_c), either(only_c, only_c))

    def test_errors(self):
        turned = ("document", TURNED, ())
        unsound = document_of_clauses(TWO, one_place("k", "c", ""))
        for asking in (both, either, mixing, mixing_place):
            for thing in ODD:
                if not plain.document_form(thing):
                    with self.assertRaises(BadDocument):
                        asking(thing, None)
                    with self.assertRaises(BadDocument):
                        asking(unsound, thing)
            for one, other in ((FREE_DOC, turned), (unsound, document_of_clauses(TURNED, one_place("k", "c", "")))):
                with self.assertRaises(OtherHouse):
                    asking(one, other)
        self.assertEqual(both(other=FREE_DOC, one=FREE_DOC), FREE_DOC)
        self.assertEqual(either(other=FREE_DOC, one=FREE_DOC)[2][0][1], "either")
        self.assertIsNone(mixing(other=FREE_DOC, one=FREE_DOC))
        self.assertIsNone(mixing_place(other=FREE_DOC, one=FREE_DOC))
        self.assertIsNone(apart(both(STORE_DOC, STORE_DOC), STORE_DOC))
        self.assertEqual(STORE_DOC[1], STORE)


if __name__ == "__main__":
    unittest.main()
