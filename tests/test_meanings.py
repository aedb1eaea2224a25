"""meanings [24], with free names [34]."""

import unittest

from saidandasked.clauses import is_document
from saidandasked.errors import BadDocument, BadMeaning, BadName, Empty, OtherHouse, TooMany
from saidandasked.meanings import alike, disputed, document_of, is_meaning, meaning
from tests import plain, samples
from tests.samples import FREE_DOC, ODD, ONE, QUARREL_DOC, STORE, STORE_DOC, TURNED, TWO, bent

DOCUMENTS = samples.small_documents()[::4] + samples.drawn_documents(60)
STORE_MEANING = ("meaning", STORE, (
    ((("ok", 1),), (("none", 0),)),
    ((("ok", 1), ("full", 1)), (("ok", 2),)),
    ((("ok", 1), ("full", 1)), (("ok", 2), ("none", 0)))))


def has(said, history):
    """Whether the rows of a meaning lead along a history."""
    if not said[2]:
        return False
    at = 0
    for call, answer in history:
        leads = dict(said[2][at][plain.calls(said[1]).index(call)])
        if answer not in leads:
            return False
        at = leads[answer]
    return True


def free_names():
    letters = "abcdefghijklmnopqrstuvwxyz"
    return [n for n in list(letters) + [a + b for a in letters for b in letters] if n not in plain.KEPT]


class Meanings(unittest.TestCase):
    def test_by_hand(self):
        self.assertEqual(meaning(STORE_DOC), STORE_MEANING)
        self.assertEqual(meaning(FREE_DOC), ("meaning", TWO, (((("x", 0), ("y", 0)), (("x", 0), ("y", 0))),)))
        self.assertEqual(meaning(QUARREL_DOC), ("meaning", ONE, ()))
        self.assertEqual(meaning(samples.TWICE_DOC), ("meaning", ONE, (((("x", 1), ("y", 0)),), ((("y", 0),),))))

    def test_what_meanings_have(self):
        for document in DOCUMENTS + [samples.plus_chain(5), samples.rank_chain(4)]:
            said = meaning(document)
            self.assertTrue(plain.meaning_form(said))
            self.assertIs(is_meaning(said), True)
            self.assertEqual(said[1], document[1])
            self.assertEqual(has(said, ()), plain.sound(document))
            for history in plain.histories(document[1], 3)[:150]:
                self.assertEqual(has(said, history), plain.held(document, history))

    def test_rows_go_with_stands(self):
        for document in samples.small_documents() + samples.drawn_documents(150, 300):
            said = meaning(document)
            known = plain.ranks(document)
            if not plain.sound(document):
                self.assertEqual(said, ("meaning", document[1], ()))
                continue
            self.assertTrue(plain.meaning_form(said))
            met = [(0, plain.first_stand(document))]
            for at, stand in met:
                for call, told in zip(plain.calls(document[1]), said[2][at]):
                    good = []
                    for answer in plain.answers_of(document[1], call):
                        there = plain.stand_after(document, stand, call, answer)
                        if () not in there and known[there] is None:
                            good.append((answer, there))
                    self.assertEqual([pair[0] for pair in told], [pair[0] for pair in good])
                    for (_, to), (_, there) in zip(told, good):
                        if (to, there) not in met:
                            met.append((to, there))

    def test_wording_means_nothing(self):
        clause = STORE_DOC[2][0]
        renamed = ("clause", "q", ("b", "a"), tuple(
            tuple({"empty": "b", "some": "a"}.get(p, p) if isinstance(p, str) else
                  tuple((x, {"empty": "b", "some": "a"}[to]) for x, to in p) for p in row) for row in clause[3]))
        twice = ("document", STORE, (clause, renamed))
        for other in (twice, ("document", STORE, (renamed,))):
            self.assertEqual(meaning(other), STORE_MEANING)
            self.assertIs(alike(STORE_DOC, other), True)
            self.assertIsNone(disputed(STORE_DOC, other))

    def test_long(self):
        for many in (1, 39, 60):
            document = samples.plus_chain(min(many, 39))
            self.assertEqual(len(meaning(document)[2]), min(many, 39) + 1)
        two = ("document", ONE, samples.plus_chain(39)[2] + (("clause", "k", ("p",), (("p", "c", (("x", "p"),)),)),))
        self.assertEqual(meaning(two)[2], ())

    def test_is_meaning(self):
        for thing in ODD:
            self.assertIs(is_meaning(thing), False)
        for said in [STORE_MEANING, ("meaning", ONE, ())] + [meaning(d) for d in DOCUMENTS[::6]]:
            for thing in bent(said):
                self.assertIs(is_meaning(thing), plain.meaning_form(thing), thing)
        self.assertIs(is_meaning(thing=("meaning", ONE, ())), True)

    def test_is_meaning_by_its_rows(self):
        def told(good, *rows, house=ONE):
            self.assertIs(is_meaning(("meaning", house, rows)), good, rows)
        told(True, ((("x", 0),),))
        told(True, ((("x", 0), ("y", 0)),))
        told(False, ((("y", 0), ("x", 0)),))
        told(False, ((("x", 0), ("x", 0)),))
        told(False, ((),))
        told(False, ((("x", 1),),))
        told(False, ((("x", 0),),), ((("y", 1),),))
        told(True, ((("x", 1),),), ((("y", 0),),))
        told(False, ((("x", 1),),), ((("x", 0),),))
        told(True, ((("x", 1), ("y", 2)),), ((("x", 1),),), ((("y", 2),),))
        told(False, ((("x", 2), ("y", 1)),), ((("x", 1),),), ((("y", 2),),))
        # Unlike only behind one more answer.
        told(True, ((("x", 1),),), ((("x", 2),),), ((("y", 2),),))
        told(False, ((("x", 1), ("y", 2)),), ((("x", 3),),), ((("x", 3),),), ((("y", 3),),))
        told(True, ((("x", 1),), (("x", 0),)), ((("y", 1),), (("x", 0),)), house=TWO)
        told(False, ((("x", 1),),), ((("y", 1),), (("x", 0),)), house=TWO)


class DocumentOf(unittest.TestCase):
    def test_by_hand(self):
        self.assertEqual(document_of(STORE_MEANING, "s"), ("document", STORE, (("clause", "s", ("a", "b", "c"), (
            ("a", "put", (("ok", "b"),)), ("a", "take", (("none", "a"),)),
            ("b", "put", (("ok", "b"), ("full", "b"))), ("b", "take", (("ok", "c"),)),
            ("c", "put", (("ok", "b"), ("full", "b"))), ("c", "take", (("ok", "c"), ("none", "a"))))),)))

    def test_there_and_back(self):
        for document in DOCUMENTS + [samples.plus_chain(39)]:
            said = meaning(document)
            if said[2] and len(said[2]) <= 40:
                other = document_of(said, "name")
                self.assertTrue(is_document(other))
                self.assertEqual(meaning(other), said)
                clause = other[2][0]
                self.assertEqual(clause[:3], ("clause", "name", tuple(free_names()[:len(said[2])])))
                self.assertEqual(len(clause[3]), len(said[2]) * len(said[1][1]))
                self.assertTrue(alike(document, other))

    def chain(self, many):
        rows = tuple(((("x", at + 1),),) for at in range(many - 1)) + (((("y", many - 1),),),)
        return ("meaning", ONE, rows)

    def test_forty_rows(self):
        self.assertEqual(document_of(self.chain(40), "k")[2][0][2], tuple(free_names()[:40]))
        self.assertEqual(document_of(self.chain(40), "k")[2][0][2][25:28], ("z", "aa", "ab"))
        for many in (41, 60):
            self.assertTrue(is_meaning(self.chain(many)))
            with self.assertRaises(TooMany):
                document_of(self.chain(many), "k")

    def test_errors(self):
        for thing in ODD + [STORE_DOC, list(STORE_MEANING)]:
            for name in ("k", None):
                with self.assertRaises(BadMeaning):
                    document_of(thing, name)
        for name in ODD + ["clause", "abcdefghi", "K", ["k"]]:
            if not plain.name_form(name):
                for said in (STORE_MEANING, ("meaning", ONE, ()), self.chain(41)):
                    with self.assertRaises(BadName):
                        document_of(said, name)
        with self.assertRaises(Empty):
            document_of(("meaning", ONE, ()), "k")
        self.assertEqual(document_of(name="k", said=STORE_MEANING)[2][0][1], "k")


class Disputes(unittest.TestCase):
    def test_by_hand(self):
        self.assertEqual(disputed(STORE_DOC, ("document", STORE, ())), ((("put", "full"),), 2))
        self.assertEqual(disputed(("document", STORE, ()), STORE_DOC), ((("put", "full"),), 1))
        self.assertEqual(disputed(QUARREL_DOC, ("document", ONE, ())), ((), 2))
        self.assertEqual(disputed(("document", ONE, ()), QUARREL_DOC), ((), 1))
        self.assertIsNone(disputed(QUARREL_DOC, samples.rank_chain(5)))
        self.assertTrue(alike(QUARREL_DOC, samples.rank_chain(5)))

    def test_pairs(self):
        documents = samples.small_documents()[::9] + [samples.drawn_document(seed, ONE) for seed in range(12)]
        histories = plain.histories(ONE, 4)
        held = {document: [plain.held(document, history) for history in histories] for document in documents}
        for one in documents:
            for other in documents:
                at = next((k for k, (a, b) in enumerate(zip(held[one], held[other])) if a != b), None)
                told = disputed(one, other)
                self.assertIs(alike(one, other), told is None)
                if at is not None:
                    self.assertEqual(told, (histories[at], 1 if held[one][at] else 2))
                elif told is not None:
                    self.assertGreater(len(told[0]), 4)

    def test_two_calls(self):
        documents = [samples.drawn_document(seed, TWO, 2) for seed in range(30)]
        histories = plain.histories(TWO, 3)
        for one, other in zip(documents, documents[1:] + documents[:1]):
            first = next((h for h in histories if plain.held(one, h) != plain.held(other, h)), None)
            told = disputed(one, other)
            if first is not None:
                self.assertEqual(told, (first, 1 if plain.held(one, first) else 2))
            elif told is not None:
                self.assertGreater(len(told[0]), 3)
                self.assertEqual(plain.held(one, told[0]), told[1] == 1)
                self.assertEqual(plain.held(other, told[0]), told[1] == 2)

    def test_late(self):
        told = disputed(samples.plus_chain(30), samples.plus_chain(31))
        self.assertEqual(told, ((("c", "x"),) * 30 + (("c", "x"),), 2))
        self.assertEqual(disputed(samples.plus_chain(31), samples.plus_chain(30)), (told[0], 1))

    def test_right_programs(self):
        # Alike documents have the same right programs; others hold a history apart, so not the same ones.
        documents = samples.small_documents()[::5]
        good = {d: tuple(p for p in plain.programs(ONE, 2) if plain.right(d, p)) for d in documents}
        for one in documents[::2]:
            for other in documents:
                if alike(one, other):
                    self.assertEqual(good[one], good[other])

    def test_errors(self):
        for asked in (alike, disputed):
            for thing in ODD:
                for rest in (STORE_DOC, None):
                    with self.assertRaises(BadDocument):
                        asked(thing, rest)
                with self.assertRaises(BadDocument):
                    asked(STORE_DOC, thing)
            for one, other in ((FREE_DOC, STORE_DOC), (FREE_DOC, ("document", TURNED, ())),
                               (("document", TURNED, ()), FREE_DOC)):
                with self.assertRaises(OtherHouse):
                    asked(one, other)
            asked(other=STORE_DOC, document=STORE_DOC)
        for thing in ODD:
            with self.assertRaises(BadDocument):
                meaning(thing)
        self.assertEqual(meaning(document=STORE_DOC), STORE_MEANING)


if __name__ == "__main__":
    unittest.main()
