"""quarrels: parts of documents, quarrels and ways out [23]."""

import unittest
from itertools import combinations

from saidandasked.errors import BadDocument, BadNames
from saidandasked.quarrels import part_of, quarrels, ways_out
from tests import plain, samples
from tests.samples import FREE_DOC, ODD, ONE, QUARREL_DOC, STORE_DOC, one_place

NAMES = ("one", "two", "three")


def names_of(document):
    return [clause[1] for clause in document[2]]


def part(document, names):
    return document[:2] + (tuple(clause for clause in document[2] if clause[1] in names),)


def lots(document):
    names = names_of(document)
    return [lot for many in range(len(names) + 1) for lot in combinations(names, many)]


def least(good, all_lots):
    """The least lots among the good ones, in order."""
    return tuple(lot for lot in all_lots if good(lot)
                 and not any(good(other) and set(other) < set(lot) for other in all_lots))


DOCUMENTS = [samples.drawn_document(seed, most=5) for seed in range(150)] + samples.small_documents()[::10]


class Quarrels(unittest.TestCase):
    def test_by_hand(self):
        self.assertEqual(quarrels(QUARREL_DOC), (("one", "two"), ("two", "three")))
        self.assertEqual(ways_out(QUARREL_DOC), (("two",), ("one", "three")))
        for document in (STORE_DOC, FREE_DOC):
            self.assertEqual(quarrels(document), ())
            self.assertEqual(ways_out(document), ((),))
        alone = ("document", ONE, (("clause", "k", ("p",), (("p", "c", ()),)),))
        self.assertEqual((quarrels(alone), ways_out(alone)), ((("k",),), (("k",),)))

    def test_order(self):
        # Lots with fewer clauses are first, then the document's order counts and not that of the letters.
        clauses = (one_place("z", "c", "x"), one_place("y", "c", ""), one_place("b", "c", "y"), one_place("a", "c", "x"))
        document = ("document", ONE, clauses)
        self.assertEqual(quarrels(document), (("y",), ("z", "b"), ("b", "a")))
        self.assertEqual(ways_out(document), (("y", "b"), ("z", "y", "a")))

    def test_all_parts(self):
        for document in DOCUMENTS:
            known = {lot: plain.sound(part(document, lot)) for lot in lots(document)}
            self.assertEqual(quarrels(document), least(lambda lot: not known[lot], lots(document)))
            rest = {lot: known[tuple(n for n in names_of(document) if n not in lot)] for lot in known}
            self.assertEqual(ways_out(document), least(lambda lot: rest[lot], lots(document)))

    def test_facts(self):
        for document in DOCUMENTS:
            against, out = quarrels(document), ways_out(document)
            self.assertEqual(out, least(lambda lot: all(set(lot) & set(q) for q in against), lots(document)))
            self.assertEqual(against, least(lambda lot: all(set(lot) & set(w) for w in out), lots(document)))

    def test_eight_clauses(self):
        clauses = tuple(one_place(name, "c", "xy"[at % 2]) for at, name in enumerate(samples.free(8)))
        document = ("document", ONE, clauses)
        self.assertEqual(len(quarrels(document)), 16)
        self.assertEqual(ways_out(document), (("a", "c", "e", "g"), ("b", "d", "f", "h")))

    def test_parts(self):
        for names in lots(QUARREL_DOC):
            for told in (names, list(names), names[::-1]):
                self.assertEqual(part_of(QUARREL_DOC, told), part(QUARREL_DOC, names))
        names = ["three", "one"]
        part_of(QUARREL_DOC, names)
        self.assertEqual(names, ["three", "one"])
        self.assertEqual(part_of(QUARREL_DOC, NAMES), QUARREL_DOC)
        self.assertEqual(part_of(FREE_DOC, []), FREE_DOC)

    def test_errors(self):
        for thing in ODD:
            for asked, rest in ((part_of, ([],)), (part_of, (None,)), (quarrels, ()), (ways_out, ())):
                with self.assertRaises(BadDocument):
                    asked(thing, *rest)
        for names in ODD + [("one", "one"), ["one", "four"], "one", [["one"]], [None], {"one": 1}, {"one"}, ("p",),
                            ("one", "two", "three", "one")]:
            if names == () or names == []:
                continue
            with self.assertRaises(BadNames):
                part_of(QUARREL_DOC, names)
        self.assertEqual(part_of(names=[], document=QUARREL_DOC)[2], ())
        self.assertEqual(len(quarrels(document=QUARREL_DOC)), 2)
        self.assertEqual(len(ways_out(document=QUARREL_DOC)), 2)


if __name__ == "__main__":
    unittest.main()
