"""decided: what finitely many calls can show [70] to [73]; depths [74]; suites [75], [76]; the example of [79]."""

import unittest
from itertools import product

from saidandasked.decided import decided, fine_stands, is_decided, is_lasso, late_break, sure_stands
from saidandasked.depths import depth, slowest
from saidandasked.errors import BadDocument, BadLimit, BadMany, BadProgram, BadSuite, OtherHouse
from saidandasked.ranks import safe
from saidandasked.stands import stands
from saidandasked.suites import first_break, is_case_tree, suffices
from tests import plain, samples
from tests.samples import (FREE_DOC, MADE, ODD, ONCE_DOC, ONE, QUARREL_DOC, STORE_DOC, TURNED, TWICE_DOC, TWO, bent,
                           one_place, ring)
from tests.test_covers import document_of_clauses, strict

SMALL = samples.small_documents()
WORD = ("c", "c", "c")


def documents(many):
    """Documents of one or two calls, some of them not sound, some with ways to where nothing is barred any more."""
    for seed in range(many):
        house = (ONE, TWO)[seed % 2]
        document = strict(seed, house, 1 + seed % 4, 1)
        if seed % 3:
            clause = document[2][0]
            rows = tuple(row for row in clause[3] if row[0] != clause[2][-1])
            document = document_of_clauses(house, clause[:3] + (rows,))
        yield document


def rank(document, stand):
    return plain.ranks(document)[stand]


def lasting(document, stand, calls):
    """Whether someone can answer so many more calls from the stand."""
    if () in stand:
        return False
    return calls == 0 or all(any(lasting(document, plain.stand_after(document, stand, call, answer), calls - 1)
                                 for answer in plain.answers_of(document[1], call)) for call in plain.calls(document[1]))


def behind(document, stand):
    return [plain.stand_after(document, stand, *pair) for pair in plain.pairs(document[1])]


def is_sure(document, stand):
    queue = [stand]
    for here in queue:
        for there in behind(document, here):
            if () in there:
                return False
            if there not in queue:
                queue.append(there)
    return True


def layers(document, k):
    found = [[plain.first_stand(document)] if lasting(document, plain.first_stand(document), k) else []]
    for calls in range(k):
        there = {s for stand in found[-1] for s in behind(document, stand) if lasting(document, s, k - calls - 1)}
        found.append([stand for stand in stands(document) if stand in there])
    return tuple(tuple(layer) for layer in found)


def first_break_of(document, program):
    """The first word on which the program breaks the document, None if it is right."""
    queue = [(0, plain.first_stand(document), ())]
    seen = {queue[0][:2]}
    for state, stand, word in queue:
        for call, (answer, to) in zip(plain.calls(document[1]), program[2][state]):
            there = plain.stand_after(document, stand, call, answer)
            if () in there:
                return word + (call,)
            if (to, there) not in seen:
                seen.add((to, there))
                queue.append((to, there, word + (call,)))
    return None


def lasso_form(document, thing):
    if not isinstance(thing, tuple) or len(thing) != 4 or not isinstance(thing[0], str) or thing[0] != "never":
        return False
    for part in thing[1:]:
        if not isinstance(part, tuple):
            return False
        for pair in part:
            if not isinstance(pair, tuple) or len(pair) != 2 or not all(isinstance(word, str) for word in pair):
                return False
            if pair not in plain.pairs(document[1]):
                return False
    way, ring_told, rest = thing[1:]
    if not ring_told or not rest or not plain.held(document, way + ring_told):
        return False
    if plain.way(document, way)[-1] != plain.way(document, way + ring_told)[-1]:
        return False
    return plain.let(document, way + rest[:-1]) and not plain.let(document, way + rest)


class Decided(unittest.TestCase):
    def test_all(self):
        seen = {}
        for document in list(documents(120)) + SMALL[::9]:
            told = decided(document)
            self.assertEqual(sure_stands(document), tuple(s for s in stands(document) if is_sure(document, s)))
            first = plain.first_stand(document)
            if told[0] == "never":
                self.assertTrue(lasso_form(document, told))
                self.assertIs(is_lasso(document, told), True)
            else:
                self.assertEqual((told[0], len(told)), ("within", 2))
                greatest = max([r for r in plain.ranks(document).values() if r is not None], default=0)
                self.assertLessEqual(told[1], len(safe(document)) + greatest)
                self.assertEqual(told[1] == 0, is_sure(document, first))
                if not plain.sound(document):
                    self.assertEqual(told[1], rank(document, first))
            for k in (0, 1, 2, 3, 5):
                expect = layers(document, k)
                self.assertEqual(fine_stands(document, k), expect)
                good = all(is_sure(document, stand) for stand in expect[-1])
                self.assertIs(is_decided(document, k), good)
                self.assertEqual(good, told[0] == "within" and told[1] <= k)
                self.check_late(document, k, good)
            key = told[0] if told[0] == "never" else told
            seen[key] = seen.get(key, 0) + 1
        self.assertGreater(len(seen), 4, seen)
        self.assertGreater(seen["never"], 20)

    def check_late(self, document, k, good):
        told = late_break(document, k)
        self.assertEqual(told is None, good)
        if told is not None:
            program, word = told
            self.assertTrue(plain.program_form(program))
            self.assertEqual(first_break_of(document, program), word)
            self.assertGreater(len(word), k)

    def test_programs(self):
        # All programs of at most three states: within k each that is fine to k is right.
        for document in [document for document in documents(60) if document[1] == ONE] + SMALL[::41]:
            told = decided(document)
            for program in list(plain.programs(ONE, 3))[::3]:
                word = first_break_of(document, program)
                if told[0] == "within" and word is not None:
                    self.assertLessEqual(len(word), told[1])
                for k in (1, 2):
                    if word is None or len(word) > k:
                        fine = fine_stands(document, k)
                        for told_word in plain.words(ONE, k):
                            history = plain.told_history(program, told_word)
                            self.assertIn(plain.way(document, history)[-1], fine[len(told_word)])

    def test_by_hand(self):
        self.assertEqual(sure_stands(ONCE_DOC), ())
        self.assertEqual(decided(ONCE_DOC)[0], "never")
        lasso = ("never", (), (("c", "x"),), (("c", "y"), ("c", "x")))
        self.assertTrue(is_lasso(ONCE_DOC, lasso))
        for thing in (("never", (), (), lasso[3]), ("never", (), lasso[2], ()), ("never", (("c", "y"),), lasso[2], lasso[3]),
                      ("never", (), (("c", "x"),) * 2, (("c", "y"), ("c", "x"), ("c", "x"))), lasso[:3], lasso[1:],
                      ("never", (), (("c", "y"),), (("c", "x"),)), ("within", 1)):
            self.assertIs(is_lasso(ONCE_DOC, thing), lasso_form(ONCE_DOC, thing))
        self.assertTrue(is_lasso(ONCE_DOC, ("never", (("c", "x"),) * 3, (("c", "x"),) * 2, (("c", "y"), ("c", "x")))))
        clause = ONCE_DOC[2][0]
        self.assertEqual(decided(document_of_clauses(ONE, clause[:3] + (clause[3][:1],))), ("within", 0))
        self.assertEqual(len(sure_stands(document_of_clauses(ONE, clause[:3] + (clause[3][:1],)))), 2)
        self.assertEqual((decided(FREE_DOC), sure_stands(FREE_DOC), fine_stands(FREE_DOC, 1)), (("within", 0), ((),), (((),), ((),))))
        self.assertEqual(decided(QUARREL_DOC), ("within", 1))
        self.assertEqual(fine_stands(QUARREL_DOC, 0), ((((("p",),) * 3),),))
        self.assertEqual(fine_stands(QUARREL_DOC, 2), ((), (), ()))
        self.assertEqual(decided(samples.rank_chain(30)), ("within", 30))
        self.assertIsNone(late_break(samples.rank_chain(30), 30))
        program, word = late_break(samples.rank_chain(30), 29)
        self.assertEqual(first_break_of(samples.rank_chain(30), program), word)
        self.assertEqual(len(word), 30)
        for k in (0, 60):
            program, word = late_break(ONCE_DOC, k)
            self.assertEqual(first_break_of(ONCE_DOC, program), word)
            self.assertGreater(len(word), k)
            self.assertEqual(len(fine_stands(ONCE_DOC, k)), k + 1)

    def test_long(self):
        # Behind 39 calls nothing is barred any more, and more numbers than k can be wanted.
        places = tuple(samples.free(40))
        rows = tuple((place, "c", (("x", places[at + 1]),)) for at, place in enumerate(places[:39]))
        document = document_of_clauses(ONE, ("clause", "k", places, rows))
        self.assertEqual(decided(document), ("within", 39))
        self.assertTrue(is_decided(document, 39) and is_decided(document, 60) and not is_decided(document, 38))
        two = ("document", ("house", (("call", "c", ("x", "y")), ("call", "d", ("x",)))), (
            ("clause", "k", places, rows), ("clause", "l", places[:2], (("a", "d", (("x", "a"), ("x", "b"))),))))
        self.assertEqual(decided(two)[0], "never")
        self.assertTrue(is_lasso(two, decided(two)))

    def test_far_lassos(self):
        # Only the last of the places comes again, and the first ones have two answers.
        places = tuple(samples.free(9))
        rows = [(place, "c", (("x", places[at + 1]), ("y", places[min(at + 2, 8)]))) for at, place in enumerate(places[:-1])]
        document = document_of_clauses(ONE, ("clause", "k", places, tuple(rows) + ((places[8], "c", (("y", places[8]),)),)))
        told = decided(document)
        self.assertTrue(lasso_form(document, told))
        self.assertEqual(told[2], (("c", "y"),))
        # A ring of five stands behind a way.
        rows = [(place, "c", (("x", places[at + 1 if at < 8 else 4]),)) for at, place in enumerate(places)]
        document = document_of_clauses(ONE, ("clause", "k", places, tuple(rows)))
        told = decided(document)
        self.assertTrue(lasso_form(document, told))
        self.assertEqual(len(told[2]) % 5 if told[1] else len(told[2]), 0)

    def test_lassos(self):
        count = 0
        for document in documents(60):
            told = decided(document)
            if told[0] == "never":
                count += 1
                for thing in list(bent(told))[::2] + ODD:
                    self.assertIs(is_lasso(document, thing), lasso_form(document, thing), thing)
            elif count:
                for parts in product(plain.histories(document[1], 1), repeat=3):
                    self.assertFalse(is_lasso(document, ("never",) + parts))
        self.assertGreater(count, 8)
        self.assertFalse(is_lasso(QUARREL_DOC, ("never", (), (("c", "x"),), (("c", "x"),))))

    def test_errors(self):
        limited = (fine_stands, is_decided, late_break)
        for thing in ODD:
            if not plain.document_form(thing):
                for asking, rest in ((sure_stands, ()), (decided, ()), (is_lasso, (None,))) + tuple(
                        (one, (None,)) for one in limited):
                    with self.assertRaises(BadDocument):
                        asking(thing, *rest)
            if not (plain.number(thing) and 0 <= thing <= 60):
                for asking in limited:
                    with self.assertRaises(BadLimit):
                        asking(ONCE_DOC, thing)
        for asking in limited:
            for k in (-1, 61):
                with self.assertRaises(BadLimit):
                    asking(document=ONCE_DOC, k=k)
            self.assertIsNotNone(asking(k=1, document=ONCE_DOC))
        self.assertEqual(sure_stands(document=FREE_DOC), ((),))
        self.assertEqual(decided(document=FREE_DOC), ("within", 0))
        self.assertFalse(is_lasso(thing=None, document=FREE_DOC))


def words_broken(document, m):
    """The lengths of the first words on which programs of m states break the document."""
    found = [first_break_of(document, program) for program in plain.programs(document[1], m)]
    return [len(word) for word in found if word is not None]


class Depths(unittest.TestCase):
    def test_all(self):
        seen = {}
        for document in list(documents(50)) + SMALL[::23]:
            before = 0
            told = decided(document)
            for m in ((1, 2, 3) if document[1] == ONE else (1, 2)):
                expect = max(words_broken(document, m), default=0)
                self.assertEqual(depth(document, m), expect)
                slow = slowest(document, m)
                self.assertEqual(slow is None, expect == 0)
                if slow is not None:
                    self.assertLessEqual(len(slow[0][2]), m)
                    self.assertEqual(first_break_of(document, slow[0]), slow[1])
                    self.assertEqual(len(slow[1]), expect)
                self.assertLessEqual(before, expect)
                self.assertLessEqual(expect, m * len(stands(document)))
                if told[0] == "within":
                    self.assertLessEqual(expect, told[1])
                before = expect
            seen[before] = seen.get(before, 0) + 1
        self.assertGreater(len(seen), 4, seen)

    def test_by_hand(self):
        self.assertEqual([depth(ONCE_DOC, m) for m in (1, 2, 3)], [0, 3, 4])
        self.assertIsNone(slowest(ONCE_DOC, 1))
        self.assertEqual(slowest(ONCE_DOC, 2)[1], WORD)
        self.assertEqual(slowest(ONCE_DOC, 2)[0], ("program", ONE, ((("x", 1),), (("y", 0),))))
        self.assertEqual(depth(FREE_DOC, 2), 0)
        self.assertEqual(depth(QUARREL_DOC, 3), 1)
        wide = ("house", tuple(("call", name, tuple("vwxyz")) for name in "abcde"))
        self.assertEqual(depth(document_of_clauses(wide, one_place("k", "e", "vwxy")), 1), 1)

    def test_errors(self):
        for asking in (depth, slowest):
            for thing in ODD:
                if not plain.document_form(thing):
                    with self.assertRaises(BadDocument):
                        asking(thing, None)
                if not (plain.number(thing) and 1 <= thing <= 3):
                    with self.assertRaises(BadMany):
                        asking(ONCE_DOC, thing)
            for m in (0, 4, True):
                with self.assertRaises(BadMany):
                    asking(document=ONCE_DOC, m=m)
        self.assertEqual(depth(m=2, document=ONCE_DOC), 3)
        self.assertIsNotNone(slowest(m=2, document=ONCE_DOC))


def passes(document, suite, program):
    return all(plain.let(document, plain.told_history(program, word)) for word in suite)


def tree_form(document, m, suite, tree, entries=None, named=1):
    """is_case_tree by its words; the entries are (answer, state) by (state, call)."""
    entries = {} if entries is None else entries
    if not isinstance(tree, tuple) or not tree or not isinstance(tree[0], str):
        return False
    house = document[1]
    if tree[0] == "breaks" and len(tree) == 2:
        if not plain.number(tree[1]) or not 0 <= tree[1] < len(suite):
            return False
        state, told = 0, ()
        for call in suite[tree[1]]:
            if (state, call) not in entries:
                return False
            answer, state = entries[(state, call)]
            told += ((call, answer),)
            if not plain.let(document, told):
                return True
        return False
    if tree == ("right",):
        if len(entries) < named * len(house[1]):
            return False
        rows = tuple(tuple(entries[(state, call)] for call in plain.calls(house)) for state in range(named))
        return plain.right(document, ("program", house, rows))
    if tree[0] != "try" or len(tree) != 4 or not plain.number(tree[1]) or not 0 <= tree[1] < named:
        return False
    if not isinstance(tree[2], str) or tree[2] not in plain.calls(house) or (tree[1], tree[2]) in entries:
        return False
    choices = [(answer, to) for answer in plain.answers_of(house, tree[2]) for to in range(min(named + 1, m))]
    if not isinstance(tree[3], tuple) or len(tree[3]) != len(choices):
        return False
    return all(tree_form(document, m, suite, part, {**entries, (tree[1], tree[2]): choice}, max(named, choice[1] + 1))
               for choice, part in zip(choices, tree[3]))


def suites_of(document, seed):
    """Some suites: all words of so many calls, and drawn ones."""
    house = document[1]
    yield ()
    for many in (1, 2, 3):
        yield tuple(product(plain.calls(house), repeat=many))
    draw = samples.random.Random(seed)
    for _ in range(3):
        told = []
        for word in draw.sample(plain.words(house, 4)[1:], min(4, len(plain.words(house, 4)) - 1)):
            if not any(word[:len(other)] == other or other[:len(word)] == word for other in told):
                told.append(word)
        yield tuple(sorted(told, key=lambda word: (len(word), [plain.calls(house).index(call) for call in word])))


class Suites(unittest.TestCase):
    def test_all(self):
        seen = {"all": 0, "missed": 0}
        for number, document in enumerate(list(documents(44)) + SMALL[::61]):
            most = 3 if document[1] == ONE else 2
            programs = list(plain.programs(document[1], most))
            wrong = [(program, first_break_of(document, program)) for program in programs]
            wrong = [pair for pair in wrong if pair[1] is not None]
            for suite in suites_of(document, number):
                passing = [pair for pair in wrong if passes(document, suite, pair[0])]
                for m in range(1, most + 1):
                    told = suffices(document, m, suite)
                    seen[told[0]] += 1
                    self.assertEqual(told[0] == "missed", any(len(program[2]) <= m for program, _ in passing))
                    if told[0] == "all":
                        self.assertEqual(len(told), 2)
                        self.assertTrue(tree_form(document, m, suite, told[1]))
                        self.assertIs(is_case_tree(document, m, suite, told[1]), True)
                    else:
                        self.assertIn(told[1:], passing if len(told[1][2]) == m or m == most else passing)
                        self.assertLessEqual(len(told[1][2]), m)
                for program, word in wrong[::9]:
                    self.check_first(document, suite, program)
        self.assertGreater(min(seen.values()), 60, seen)

    def check_first(self, document, suite, program):
        expect = None
        for at, word in enumerate(suite):
            many = [n for n in range(len(word) + 1) if not plain.let(document, plain.told_history(program, word[:n]))]
            if many and expect is None:
                expect = (at, many[0])
        self.assertEqual(first_break(document, suite, program), expect)

    def test_all_words(self):
        # The suite of all words of k calls suffices exactly if the depth is at most k.
        for document in list(documents(30)) + SMALL[::71]:
            for m, k in product((1, 2), (1, 2, 3)):
                suite = tuple(product(plain.calls(document[1]), repeat=k))
                self.assertEqual(suffices(document, m, suite)[0] == "all", depth(document, m) <= k)

    def test_joined(self):
        count = 0
        for one, other in zip(documents(60), list(documents(90))[2:]):
            if one[1] != other[1]:
                continue
            suites = [(("c", "c"),), (("c", "c", "c"),)]
            if all(suffices(document, 2, suite)[0] == "all" for document, suite in zip((one, other), suites)):
                both = document_of_clauses(one[1], *one[2], *[("clause", "other" + c[1][1:], *c[2:]) for c in other[2]])
                self.assertEqual(suffices(both, 2, suites[1])[0], "all")
                count += 1
        self.assertGreater(count, 4)

    def test_by_hand(self):
        told = suffices(ONCE_DOC, 2, (WORD,))
        self.assertEqual(told[0], "all")
        self.assertTrue(tree_form(ONCE_DOC, 2, (WORD,), told[1]))
        self.assertEqual(suffices(ONCE_DOC, 2, (("c", "c"),)), ("missed", ("program", ONE, ((("x", 1),), (("y", 0),))), WORD))
        self.assertEqual(suffices(ONCE_DOC, 3, (WORD,))[0], "missed")
        self.assertEqual(suffices(FREE_DOC, 1, ())[0], "all")
        self.assertEqual(suffices(QUARREL_DOC, 1, ())[0], "missed")
        self.assertEqual(first_break(ONCE_DOC, (WORD,), ("program", ONE, ((("x", 1),), (("y", 0),)))), (0, 3))
        self.assertIsNone(first_break(ONCE_DOC, (), ("program", ONE, ((("x", 1),), (("y", 0),)))))
        self.assertEqual(first_break(STORE_DOC, (("take", "take"), ("put", "put", "take")), ring(STORE_DOC[1], 1, ())), (0, 1))

    def test_greatest_suites(self):
        words = sorted(product("cd", repeat=12))[:40]
        told = suffices(FREE_DOC, 2, tuple(words))
        self.assertEqual(told[0], "all")
        document = document_of_clauses(TWO, one_place("k", "c", "x"))
        self.assertIn(suffices(document, 2, tuple(words))[0], ("all", "missed"))
        self.assertEqual(first_break(document, tuple(words), ring(TWO, 2, (1,))), (0, 2))
        with self.assertRaises(BadSuite):
            suffices(FREE_DOC, 2, tuple(sorted(product("cd", repeat=12))[:41]))

    def with_right(self, tree):
        """Trees like this one with ("right",) in the place of one part."""
        yield ("right",)
        if tree[0] == "try":
            for at, part in enumerate(tree[3]):
                for other in self.with_right(part):
                    yield tree[:3] + (tree[3][:at] + (other,) + tree[3][at + 1:],)

    def test_right_trees(self):
        for document, m, suite in ((ONCE_DOC, 2, (WORD,)), (FREE_DOC, 1, ()), (FREE_DOC, 2, ()), (TWICE_DOC, 2, (WORD,))):
            tree = suffices(document, m, suite)[1]
            for thing in self.with_right(tree):
                self.assertIs(is_case_tree(document, m, suite, thing), tree_form(document, m, suite, thing), thing)

    def test_bent_trees(self):
        for document, m, suite in ((ONCE_DOC, 2, (WORD,)), (TWICE_DOC, 1, (("c", "c"),)), (QUARREL_DOC, 1, (("c",),)),
                                   (document_of_clauses(TWO, one_place("k", "c", "x")), 1, (("c",),))):
            told = suffices(document, m, suite)
            self.assertEqual(told[0], "all")
            for thing in list(bent(told[1])) + ODD:
                self.assertIs(is_case_tree(document, m, suite, thing), tree_form(document, m, suite, thing), thing)
            for others in (1, 2, 3):
                self.assertIs(is_case_tree(document, others, suite, told[1]), tree_form(document, others, suite, told[1]))
            self.assertIs(is_case_tree(document, m, (), told[1]), tree_form(document, m, (), told[1]))

    def test_errors(self):
        wrong = [[("c",)], (("c",), ("c",)), (("c", "c"), ("c",)), (("d",), ("c",)), (("c",), ("c", "d")), ((),),
                 (("c",) * 13,), (("e",),), (["c"],), ("c",), (("c",), None), (("d",), ("c", "c"), ("d", "c"))]
        asked = ((first_break, (), (None,)), (suffices, (1,), ()), (is_case_tree, (1,), (None,)))
        for asking, ahead, rest in asked:
            for thing in ODD + wrong:
                if thing != () or not isinstance(thing, tuple):
                    with self.assertRaises(BadSuite):
                        asking(FREE_DOC, *ahead, thing, *rest)
                if not plain.document_form(thing):
                    with self.assertRaises(BadDocument):
                        asking(thing, *[None for _ in ahead], None, *rest)
            for suite in ((("c",), ("d", "c"), ("d", "d")), (("c",) * 12,), ((("c", "c"), ("c", "d"), ("d", "c")))):
                self.assertTrue(plain.document_form(FREE_DOC))
                if asking is first_break:
                    self.assertIsNone(first_break(FREE_DOC, suite, ring(TWO, 1, ())))
                else:
                    asking(FREE_DOC, *ahead, suite, *rest)
        for thing in ODD:
            with self.assertRaises(BadProgram):
                first_break(FREE_DOC, (), thing)
            if not (plain.number(thing) and 1 <= thing <= 3):
                for asking, rest in ((suffices, ()), (is_case_tree, (None,))):
                    with self.assertRaises(BadMany):
                        asking(FREE_DOC, thing, None, *rest)
        with self.assertRaises(OtherHouse):
            first_break(FREE_DOC, (), ring(TURNED, 1, ()))
        self.assertIsNone(first_break(program=MADE, suite=(), document=STORE_DOC))
        self.assertEqual(suffices(suite=(), m=1, document=FREE_DOC)[0], "all")
        self.assertFalse(is_case_tree(thing=None, suite=(), m=1, document=FREE_DOC))


if __name__ == "__main__":
    unittest.main()
