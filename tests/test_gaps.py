"""gaps: conclusive suites [77]; misses: the fewest words and trees of misses [78]; the example of [79]."""

import unittest
from itertools import combinations, product

from saidandasked.decided import is_decided
from saidandasked.depths import depth
from saidandasked.errors import BadCount, BadDocument, BadLimit, BadMany, BadSuite, TooShort
from saidandasked.gaps import gap
from saidandasked.misses import fewest_words, is_miss_tree, misses
from saidandasked.suites import suffices
from tests import plain, samples
from tests.samples import FREE_DOC, ODD, ONCE_DOC, ONE, QUARREL_DOC, STORE, TURNED, TWICE_DOC, TWO, bent, one_place, ring
from tests.test_covers import document_of_clauses, strict
from tests.test_decided import documents, first_break_of, is_sure, passes, suites_of

SMALL = samples.small_documents()
WORD = ("c", "c", "c")

# The second answer is x, whatever the first one is; behind it all is let.
SECOND = document_of_clauses(TWO, ("clause", "second", ("s", "p", "q"), (
    ("s", "c", (("x", "p"), ("y", "p"))), ("s", "d", (("x", "p"), ("y", "p"))),
    ("p", "c", (("x", "q"),)), ("p", "d", (("x", "q"),)))))


def conclusive(document, suite):
    """By the words of the facts: what can pass, what is passed, and what is sure."""
    starts = {word[:many] for word in suite for many in range(len(word) + 1)} | {()}
    house = document[1]

    def can_pass(start, stand):
        if () in stand:
            return False
        return all(any(can_pass(start + (call,), plain.stand_after(document, stand, call, answer))
                       for answer in plain.answers_of(house, call))
                   for call in plain.calls(house) if start + (call,) in starts)

    def leaks(start, stand):
        for call, answer in plain.pairs(house):
            there = plain.stand_after(document, stand, call, answer)
            if start + (call,) in starts:
                if can_pass(start + (call,), there) and leaks(start + (call,), there):
                    return True
            elif () in there or not is_sure(document, there):
                return True
        return False

    first = plain.first_stand(document)
    return not (can_pass((), first) and leaks((), first))


class Gaps(unittest.TestCase):
    def check(self, document, suite):
        told = gap(document, suite)
        self.assertEqual(told is None, conclusive(document, suite))
        if told is not None:
            self.assertIs(type(told), tuple)
            program, word = told
            self.assertTrue(plain.program_form(program))
            self.assertEqual(program[1], document[1])
            self.assertTrue(passes(document, suite, program))
            self.assertEqual(first_break_of(document, program), word)
            self.assertEqual(gap(document, suite), told)
        return told

    def test_all(self):
        seen = [0, 0]
        for seed, document in enumerate(list(documents(130)) + SMALL[::17]):
            programs = list(plain.programs(document[1], 2))[::3]
            for suite in suites_of(document, seed):
                told = self.check(document, suite)
                seen[told is None] += 1
                if told is None:
                    for program in programs:
                        if passes(document, suite, program):
                            self.assertTrue(plain.right(document, program))
        self.assertGreater(min(seen), 200)

    def test_few_states(self):
        # A conclusive suite suffices for each m, another one does not for the states of what is missed.
        for seed, document in enumerate(list(documents(60)) + SMALL[::53]):
            for suite in suites_of(document, seed):
                told = gap(document, suite)
                if told is None:
                    self.assertEqual({suffices(document, m, suite)[0] for m in (1, 2)}, {"all"})
                elif len(told[0][2]) <= (3 if document[1] == ONE else 2):
                    self.assertEqual(suffices(document, len(told[0][2]), suite)[0], "missed")

    def test_three_states(self):
        count = 0
        for seed, document in enumerate(SMALL[::31]):
            for suite in suites_of(document, seed):
                if gap(document, suite) is None:
                    count += 1
                    for program in plain.programs(ONE, 3):
                        if passes(document, suite, program):
                            self.assertTrue(plain.right(document, program))
        self.assertGreater(count, 20)

    def test_words_of_k_calls(self):
        seen = [0, 0]
        for document in list(documents(90)) + SMALL[::29]:
            for k in (1, 2, 3):
                suite = tuple(product(plain.calls(document[1]), repeat=k))
                self.assertEqual(gap(document, suite) is None, is_decided(document, k))
                seen[is_decided(document, k)] += 1
        self.assertGreater(min(seen), 40)

    def test_by_hand(self):
        self.assertIsNotNone(self.check(ONCE_DOC, (WORD,)))
        later = ("program", ONE, ((("x", 1),), (("x", 2),), (("x", 3),), (("y", 4),), (("x", 4),)))
        self.assertTrue(passes(ONCE_DOC, (WORD,), later))
        self.assertIsNone(gap(FREE_DOC, ()))
        self.assertIsNone(gap(("document", ONE, ()), (WORD,)))
        # No program passes at all.
        self.assertIsNone(gap(QUARREL_DOC, (("c",),)))
        program, word = gap(QUARREL_DOC, ())
        self.assertEqual((word, plain.right(QUARREL_DOC, program)), (("c",), False))
        self.assertIsNone(gap(SECOND, tuple(product("cd", repeat=2))))
        for missing in product("cd", repeat=2):
            suite = tuple(word for word in product("cd", repeat=2) if word != missing)
            self.assertEqual(self.check(SECOND, suite)[1], missing)
        without = document_of_clauses(ONE, ONCE_DOC[2][0][:3] + (ONCE_DOC[2][0][3][:1],))
        self.assertIsNone(gap(without, ()))

    def test_stands_that_cannot_pass(self):
        # x leads to where c is never answered, and the suite asks it there: whoever passes answers y, and all is let.
        document = document_of_clauses(TWO, ("clause", "k", ("s", "p", "t"), (
            ("s", "c", (("x", "p"), ("y", "t"))), ("s", "d", (("x", "t"), ("y", "t"))), ("p", "c", ()), ("p", "d", (("y", "p"),)))))
        self.assertIsNone(self.check(document, (("c", "c"),)))
        self.assertIsNotNone(self.check(document, (("c", "d"),)))
        self.assertIsNotNone(self.check(document, ()))
        # A stand can pass behind one word, and cannot behind another one.
        self.assertIsNone(self.check(document, (("c", "c"), ("c", "d"))))
        self.assertIsNone(self.check(document, (("d",), ("c", "c"))))

    def test_long(self):
        # What is missed is broken long behind the words, through stands that are no longer safe.
        document = samples.rank_chain(30)
        self.assertEqual(len(self.check(document, (("c",) * 12,))[1]), 30)
        chain = samples.plus_chain(39)
        self.assertGreater(len(self.check(chain, (("c",) * 12,))[1]), 12)
        words = tuple(sorted(product("cd", repeat=12)))[:40]
        self.assertIsNone(gap(FREE_DOC, words))
        self.check(document_of_clauses(TWO, one_place("k", "d", "x")), words)

    def test_errors(self):
        for thing in ODD:
            if not plain.document_form(thing):
                with self.assertRaises(BadDocument):
                    gap(thing, None)
            if thing != () or not isinstance(thing, tuple):
                with self.assertRaises(BadSuite):
                    gap(ONCE_DOC, thing)
        for suite in ((("d",),), (("c", "c"), ("c",)), (("c",) * 13,), [("c",)]):
            with self.assertRaises(BadSuite):
                gap(suite=suite, document=ONCE_DOC)
        self.assertIsNone(gap(suite=(), document=FREE_DOC))


def words_of(house, k):
    return list(product(plain.calls(house), repeat=k))


def broken_words(document, program, k):
    return [word for word in words_of(document[1], k) if not plain.let(document, plain.told_history(program, word))]


def all_broken(document, m, k):
    """For the programs that have m states and are not right, the words that they break."""
    found = {}
    for program in plain.programs(document[1], m):
        if not plain.right(document, program):
            found.setdefault(frozenset(broken_words(document, program, k)), program)
    return found


def fewest_by_trying(lots, words):
    for many in range(len(words) + 1):
        for chosen in combinations(words, many):
            if all(lot & set(chosen) for lot in lots):
                return many
    return None


def miss_form(document, m, k, n, tree, chosen=()):
    """is_miss_tree by its words."""
    if not isinstance(tree, tuple) or len(tree) != 2 or not plain.program_form(tree[0]) or tree[0][1] != document[1]:
        return False
    if len(tree[0][2]) > m or plain.right(document, tree[0]) or not isinstance(tree[1], tuple):
        return False
    broken = broken_words(document, tree[0], k)
    if set(broken) & set(chosen):
        return False
    if n == 0:
        return tree[1] == ()
    return len(tree[1]) == len(broken) and all(
        miss_form(document, m, k, n - 1, part, chosen + (word,)) for word, part in zip(broken, tree[1]))


def some_tree(lots, n, chosen=frozenset()):
    """Whether there is a tree of misses for n words, by trying all programs."""
    for lot in lots:
        if not lot & chosen and (n == 0 or all(some_tree(lots, n - 1, chosen | {word}) for word in lot)):
            return True
    return False


def cases():
    for document in list(documents(70)) + SMALL[::37] + [SECOND, ONCE_DOC, TWICE_DOC, QUARREL_DOC]:
        for m in ((1, 2, 3) if document[1] == ONE else (1, 2)):
            for k in ((1, 3, 4) if document[1] == ONE else (1, 2, 3)):
                yield document, m, k


class Misses(unittest.TestCase):
    def test_all(self):
        seen = {}
        for document, m, k in cases():
            lots = all_broken(document, m, k)
            self.assertEqual(frozenset() in lots, depth(document, m) > k)
            if frozenset() in lots:
                seen["short"] = seen.get("short", 0) + 1
                self.check_short(document, m, k)
                continue
            fewest = fewest_by_trying(lots, words_of(document[1], k))
            seen[fewest] = seen.get(fewest, 0) + 1
            suite = fewest_words(document, m, k)
            self.assertEqual(len(suite), fewest)
            self.assertIs(type(suite), tuple)
            self.assertEqual(list(suite), [word for word in words_of(document[1], k) if word in suite])
            self.assertTrue(all(lot & set(suite) for lot in lots))
            if len(document[1][1]) < 2 or k < 3:
                self.assertEqual(suffices(document, m, suite)[0], "all")
            tree = misses(document, m, k)
            self.assertEqual(tree is None, fewest == 0)
            self.assertEqual(tree is None, depth(document, m) == 0)
            if tree is not None:
                self.assertTrue(miss_form(document, m, k, fewest - 1, tree))
                self.assertIs(is_miss_tree(document, m, k, fewest - 1, tree), True)
                for n in range(4):
                    self.assertEqual(some_tree(lots, n), n < fewest)
                    self.assertIs(is_miss_tree(document, m, k, n, tree), miss_form(document, m, k, n, tree))
        self.assertGreater(seen["short"], 30)
        self.assertTrue({0, 1, 2, 4} <= set(seen), seen)

    def check_short(self, document, m, k):
        for asked in (fewest_words, misses):
            with self.assertRaises(TooShort) as caught:
                asked(document, m, k)
            program = caught.exception.program
            self.assertTrue(plain.program_form(program))
            self.assertEqual(program[1], document[1])
            self.assertLessEqual(len(program[2]), m)
            self.assertGreater(len(first_break_of(document, program)), k)

    def test_by_hand(self):
        self.assertEqual(fewest_words(ONCE_DOC, 2, 3), (WORD,))
        tree = misses(ONCE_DOC, 2, 3)
        self.assertEqual(tree, (("program", ONE, ((("x", 1),), (("y", 0),))), ()))
        self.assertEqual((fewest_words(ONCE_DOC, 1, 1), misses(ONCE_DOC, 1, 6)), ((), None))
        self.assertEqual(fewest_words(SECOND, 2, 2), tuple(product("cd", repeat=2)))
        tree = misses(SECOND, 2, 2)
        self.assertTrue(is_miss_tree(SECOND, 2, 2, 3, tree))
        self.assertFalse(is_miss_tree(SECOND, 2, 2, 2, tree))
        # With one state each program that is wrong breaks on words of one call alone.
        self.assertEqual(len(fewest_words(SECOND, 1, 2)), 2)
        # Trees for no words, and for too many: no program breaks on no word.
        one = ("program", TWO, ((("x", 0), ("y", 0)),))
        self.assertTrue(is_miss_tree(SECOND, 1, 2, 0, (one, ())))
        self.assertFalse(is_miss_tree(SECOND, 1, 2, 16, (one, ())))
        # What is fine to k has no further trees, for any number of words.
        fine = ("program", ONE, ((("x", 1),), (("y", 0),)))
        self.assertTrue(is_miss_tree(ONCE_DOC, 2, 2, 16, (fine, ())))
        self.assertFalse(is_miss_tree(ONCE_DOC, 1, 2, 16, (fine, ())))
        self.assertEqual(fewest_words(document_of_clauses(STORE, one_place("k", "take", ("none",))), 1, 1), (("take",),))

    def test_many_words(self):
        self.assertEqual(fewest_words(SECOND, 2, 4)[0][:2], ("c", "c"))
        self.assertEqual(len(fewest_words(SECOND, 2, 4)), 4)
        wide = ("house", tuple(("call", name, ("x",)) for name in "abcd"))
        self.assertEqual(fewest_words(document_of_clauses(wide), 1, 2), ())
        only = document_of_clauses(wide, ("clause", "k", ("s", "t"), (("s", "d", (("x", "t"),)), ("t", "c", ()))))
        self.assertEqual(fewest_words(only, 1, 2), (("d", "c"),))
        self.assertEqual(misses(only, 1, 2)[1], ())

    def test_bent(self):
        for document, m, k, n in ((SECOND, 2, 2, 3), (ONCE_DOC, 2, 3, 0), (SECOND, 1, 2, 1)):
            tree = misses(document, m, k)
            self.assertTrue(is_miss_tree(document, m, k, n, tree))
            things = list(bent(tree))
            for thing in things[::1 + len(things) // 900] + ODD:
                self.assertIs(is_miss_tree(document, m, k, n, thing), miss_form(document, m, k, n, thing), thing)
            # A tree more, one less, one twice, and another one's.
            program, trees = tree
            for other in (trees + trees[:1], trees[:-1], trees[:1] + trees[:-1], trees[::-1], list(trees)):
                thing = (program, other)
                self.assertIs(is_miss_tree(document, m, k, n, thing), miss_form(document, m, k, n, thing), thing)

    def test_drawn_trees(self):
        seen = {True: 0, False: 0}
        for document, m, k in list(cases())[::5]:
            programs = list(plain.programs(document[1], min(m + 1, 2)))[::7]
            for n in (0, 1, 2):
                for program in programs:
                    tree = (program, ())
                    if n:
                        tree = (program, tuple((other, ()) for other, _ in zip(programs, broken_words(document, program, k))))
                    good = miss_form(document, m, k, n, tree)
                    seen[good] += 1
                    self.assertIs(is_miss_tree(document, m, k, n, tree), good)
        self.assertGreater(min(seen.values()), 30)

    def test_errors(self):
        asked = ((fewest_words, ()), (misses, ()), (is_miss_tree, (None, None)))
        for asking, rest in asked:
            for thing in ODD:
                if not plain.document_form(thing):
                    with self.assertRaises(BadDocument):
                        asking(thing, None, None, *rest)
                if not (plain.number(thing) and 1 <= thing <= 3):
                    with self.assertRaises(BadMany):
                        asking(ONCE_DOC, thing, None, *rest)
                if not (plain.number(thing) and 1 <= thing <= 6):
                    with self.assertRaises(BadLimit):
                        asking(ONCE_DOC, 2, thing, *rest)
            for m, k, error in ((0, 0, BadMany), (4, 1, BadMany), (1, 0, BadLimit), (1, 7, BadLimit), (True, 1, BadMany),
                                (1, True, BadLimit)):
                with self.assertRaises(error):
                    asking(ONCE_DOC, m, k, *rest)
        for thing in ODD + [17, -1]:
            if not (plain.number(thing) and 0 <= thing <= 16):
                with self.assertRaises(BadCount):
                    is_miss_tree(ONCE_DOC, 2, 3, thing, None)
        # TooShort is no error of is_miss_tree.
        self.assertIs(is_miss_tree(ONCE_DOC, 2, 1, 0, None), False)
        self.assertIs(is_miss_tree(ONCE_DOC, 2, 1, 16, None), False)
        self.assertEqual(fewest_words(k=3, m=2, document=ONCE_DOC), (WORD,))
        self.assertEqual(misses(k=3, m=2, document=ONCE_DOC)[1], ())
        other = ("document", TURNED, ())
        self.assertFalse(is_miss_tree(thing=(ring(TWO, 1, (0,)), ()), n=0, k=1, m=1, document=other))


if __name__ == "__main__":
    unittest.main()
