"""entries: exchanged entries and stop trees [95]."""

import unittest
from itertools import product

from saidandasked.entries import exchanged, is_stop_tree
from saidandasked.errors import BadDocument, BadLimit, BadMost, BadProgram, OtherHouse
from tests import plain, samples
from tests.samples import (FREE_DOC, MADE, ODD, ONCE_DOC, ONE, QUARREL_DOC, STORE, STORE_DOC, TURNED, TWICE_DOC, TWO,
                           bent, one_place, ring)
from tests.test_covers import document_of_clauses
from tests.test_decided import documents

SMALL = samples.small_documents()


def otherwise(one, other):
    return sum(left != right for row, told in zip(one[2], other[2]) for left, right in zip(row, told))


def fewest_by_trying(document, program):
    """The fewest entries in which a right program with as many states is otherwise, None if there is none."""
    many = len(program[2])
    rows = product(*[[(answer, to) for answer in call[2] for to in range(many)] for call in document[1][1]])
    best = None
    for told in product(list(rows), repeat=many):
        other = ("program", document[1], told)
        count = otherwise(program, other)
        if (best is None or count < best) and plain.right(document, other):
            best = count
    return best


def stop_form(document, program, limit, tree, entries=None):
    """is_stop_tree by its words; the entries are (answer, state) by (state, call)."""
    entries = {} if entries is None else entries
    calls = plain.calls(document[1])
    if not isinstance(tree, tuple) or not tree or not isinstance(tree[0], str):
        return False
    if tree[0] == "breaks" and len(tree) == 2:
        if not isinstance(tree[1], tuple) or not all(isinstance(call, str) and call in calls for call in tree[1]):
            return False
        state, told = 0, ()
        for call in tree[1]:
            if (state, call) not in entries:
                return False
            answer, state = entries[(state, call)]
            told += ((call, answer),)
        return not plain.let(document, told)
    if tree[0] != "try" or len(tree) != 4 or not plain.number(tree[1]) or not 0 <= tree[1] < len(program[2]):
        return False
    if not isinstance(tree[2], str) or tree[2] not in calls or (tree[1], tree[2]) in entries:
        return False
    own = {(state, call): row[at] for state, row in enumerate(program[2]) for at, call in enumerate(calls)}
    others = sum(entries[entry] != own[entry] for entry in entries)
    choices = [own[(tree[1], tree[2])]]
    if others < limit:
        choices = [(answer, to) for answer in plain.answers_of(document[1], tree[2]) for to in range(len(program[2]))]
    if not isinstance(tree[3], tuple) or len(tree[3]) != len(choices):
        return False
    return all(stop_form(document, program, limit, part, {**entries, (tree[1], tree[2]): choice})
               for choice, part in zip(choices, tree[3]))


def cases():
    """Documents and programs of up to three states, or of up to two states for two calls."""
    for number, document in enumerate(list(documents(90)) + SMALL[::19]):
        most = 3 if document[1] == ONE else 2
        for program in list(plain.programs(document[1], most))[number % 50::120]:
            yield document, program


class Entries(unittest.TestCase):
    def check(self, document, program, most, fewest):
        told = exchanged(document, program, most)
        if fewest is not None and fewest <= most:
            self.assertEqual((len(told), told[0]), (3, "program"))
            other, tree = told[1:]
            self.assertTrue(plain.program_form(other) and other[1] == document[1])
            self.assertEqual(len(other[2]), len(program[2]))
            self.assertTrue(plain.right(document, other))
            self.assertEqual(otherwise(program, other), fewest)
            self.assertEqual(tree is None, fewest == 0)
            if fewest == 0:
                self.assertEqual(other, program)
            limit = fewest - 1
        else:
            self.assertEqual((len(told), told[0]), (2, "more"))
            tree, limit = told[1], most
        if tree is not None:
            self.assertTrue(stop_form(document, program, limit, tree))
            self.assertIs(is_stop_tree(document, program, limit, tree), True)
            for many in (0, 1, 2, 999):
                self.assertIs(is_stop_tree(document, program, many, tree), stop_form(document, program, many, tree))
        return told

    def test_all(self):
        seen = {}
        for document, program in cases():
            fewest = fewest_by_trying(document, program)
            seen[fewest] = seen.get(fewest, 0) + 1
            for most in (0, 1, 2, 3, 6):
                self.check(document, program, most, fewest)
        self.assertTrue({None, 0, 1, 2, 3} <= set(seen), seen)

    def test_by_hand(self):
        self.assertEqual(exchanged(STORE_DOC, MADE, 0), ("program", MADE, None))
        self.assertEqual(exchanged(STORE_DOC, MADE, 6), ("program", MADE, None))
        # One state alone cannot tell it; with two states one entry is not enough.
        one = ring(STORE, 1, ())
        told = self.check(STORE_DOC, one, 6, fewest_by_trying(STORE_DOC, one))
        self.assertEqual(exchanged(TWICE_DOC, ring(ONE, 1, ()), 1), ("program", ring(ONE, 1, (0,)), (
            "try", 0, "c", (("breaks", ("c", "c")),))))
        self.assertIn(told[0], ("program", "more"))
        self.assertEqual(exchanged(QUARREL_DOC, ring(ONE, 1, ()), 0)[0], "more")
        self.check(QUARREL_DOC, ring(ONE, 1, ()), 6, None)
        self.assertEqual(exchanged(FREE_DOC, ring(TWO, 3, ()), 0), ("program", ring(TWO, 3, ()), None))

    def test_entries_that_no_word_comes_to(self):
        # They stay as they are, and trees may try them all the same.
        program = ("program", ONE, ((("x", 0),), (("y", 1),)))
        told = exchanged(TWICE_DOC, program, 1)
        self.assertEqual(told[1][2][1], (("y", 1),))
        self.assertTrue(plain.right(TWICE_DOC, told[1]))
        inner = ("try", 0, "c", (("breaks", ("c", "c")),))
        tree = ("try", 1, "c", (inner,))
        self.assertTrue(is_stop_tree(TWICE_DOC, program, 0, tree))
        self.assertTrue(stop_form(TWICE_DOC, program, 0, tree))
        self.assertFalse(is_stop_tree(TWICE_DOC, program, 1, tree))
        self.assertFalse(is_stop_tree(TWICE_DOC, program, 0, ("try", 2, "c", (inner,))))
        # A word may go on behind what it breaks, but not to an entry that is not filled.
        tree = ("try", 0, "c", (("breaks", ("c",) * 5),))
        self.assertTrue(is_stop_tree(TWICE_DOC, program, 0, tree))
        self.assertFalse(is_stop_tree(TWICE_DOC, program, 0, ("breaks", ("c", "c"))))

    def test_twenty_entries(self):
        document = document_of_clauses(TWO, one_place("k", "d", "x"))
        program = ring(TWO, 10, (3, 7))
        told = exchanged(document, program, 2)
        self.assertEqual(told[0], "program")
        self.assertEqual(otherwise(program, told[1]), 2 if len(told[1][2]) == 10 and otherwise(program, told[1]) == 2 else 1)
        self.assertTrue(plain.right(document, told[1]))
        self.assertTrue(is_stop_tree(document, program, otherwise(program, told[1]) - 1, told[2]))
        chain = samples.plus_chain(3)
        told = exchanged(chain, ring(ONE, 20, tuple(range(20))), 2)
        self.assertEqual(told[0], "more")
        self.assertTrue(is_stop_tree(chain, ring(ONE, 20, tuple(range(20))), 2, told[1]))
        # With the greatest limit all pairs are tried at each entry.
        small = ("program", ONE, ((("x", 0),),))
        tree = ("try", 0, "c", (("breaks", ("c",)), ("breaks", ("c",))))
        self.assertTrue(is_stop_tree(QUARREL_DOC, small, 999, tree))
        self.assertFalse(is_stop_tree(QUARREL_DOC, small, 0, tree))

    def test_bent(self):
        count = 0
        for document, program in list(cases())[::4]:
            for most in (0, 1):
                told = exchanged(document, program, most)
                tree, limit = (told[1], most) if told[0] == "more" else (told[2], most - 1)
                if tree is None or limit < 0:
                    continue
                count += 1
                things = list(bent(tree))
                for thing in things[::1 + len(things) // 100] + ODD:
                    self.assertIs(is_stop_tree(document, program, limit, thing), stop_form(document, program, limit, thing))
        self.assertGreater(count, 20)

    def test_errors(self):
        for asking, error, most in ((is_stop_tree, BadLimit, 999), (exchanged, BadMost, 6)):
            rest = (None,) if asking is is_stop_tree else ()
            for thing in ODD:
                if not plain.document_form(thing):
                    with self.assertRaises(BadDocument):
                        asking(thing, None, None, *rest)
                with self.assertRaises(BadProgram):
                    asking(QUARREL_DOC, thing, None, *rest)
                if not (plain.number(thing) and 0 <= thing <= most):
                    with self.assertRaises(error):
                        asking(QUARREL_DOC, MADE, thing, *rest)
            for limit in (-1, most + 1, True, None):
                with self.assertRaises(error):
                    asking(QUARREL_DOC, MADE, limit, *rest)
            with self.assertRaises(OtherHouse):
                asking(QUARREL_DOC, MADE, most, *rest)
            with self.assertRaises(OtherHouse):
                asking(FREE_DOC, ring(TURNED, 1, ()), 0, *rest)
        self.assertEqual(exchanged(most=0, program=MADE, document=STORE_DOC)[0], "program")
        self.assertFalse(is_stop_tree(thing=None, limit=0, program=MADE, document=STORE_DOC))
        self.assertEqual(exchanged(ONCE_DOC, ring(ONE, 2, (0,)), 0)[0], "more")


if __name__ == "__main__":
    unittest.main()
