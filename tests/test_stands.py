"""leads and stands: lots and stands [7], stands that come [20]; ranks [21]."""

import unittest
from itertools import product

from saidandasked.errors import BadAnswer, BadCall, BadDocument, BadHistory, BadIndex, BadStand, NotMet
from saidandasked.leads import broken_at, first_way, is_let, lots_behind, stand_behind
from saidandasked.ranks import is_sound, rank_of, safe
from saidandasked.stands import history_to, stands
from tests import plain, samples
from tests.samples import FREE_DOC, ODD, ONE, QUARREL_DOC, STORE_DOC, TWO

EMPTY = (("empty",),)
SOME = (("some",),)
BOTH = (("empty", "some"),)
LOST = ((),)
PUT = ("put", "ok")
TAKE = ("take", "ok")
NONE = ("take", "none")

DOCUMENTS = samples.small_documents()[::7] + samples.drawn_documents(60)


def forms(document):
    """All stands of the document by their form, if there are few."""
    lots = []
    for clause in document[2]:
        places = clause[2]
        lots.append([tuple(p for p, good in zip(places, told) if good)
                     for told in product((False, True), repeat=len(places))])
    return list(product(*lots))


class Lots(unittest.TestCase):
    def test_by_hand(self):
        self.assertEqual(lots_behind(STORE_DOC, ()), EMPTY)
        self.assertEqual(lots_behind(STORE_DOC, (PUT,)), SOME)
        self.assertEqual(lots_behind(STORE_DOC, (PUT, TAKE)), BOTH)
        self.assertEqual(lots_behind(STORE_DOC, (PUT, TAKE, NONE)), EMPTY)
        self.assertEqual(lots_behind(STORE_DOC, (NONE, NONE, ("put", "full"))), LOST)
        self.assertEqual(lots_behind(STORE_DOC, (("put", "full"), PUT, TAKE)), LOST)
        self.assertEqual(lots_behind(FREE_DOC, (("c", "x"),)), ())

    def test_no_row_lets_all_and_stays(self):
        document = ("document", TWO, (("clause", "k", ("p", "q"), (("p", "c", (("y", "q"),)),)),))
        self.assertEqual(lots_behind(document, (("d", "x"), ("d", "y"))), (("p",),))
        self.assertEqual(lots_behind(document, (("d", "x"), ("c", "y"), ("c", "x"))), (("q",),))
        self.assertEqual(lots_behind(document, (("c", "x"), ("c", "y"))), ((),))

    def test_one_broken_clause_leaves_the_others(self):
        self.assertEqual(lots_behind(QUARREL_DOC, (("c", "x"),)), (("p",), (), ("p",)))
        self.assertEqual(lots_behind(QUARREL_DOC, (("c", "x"), ("c", "y"))), ((), (), ()))
        self.assertEqual(broken_at(QUARREL_DOC, (("c", "x"), ("c", "y"))), (1, 1))
        self.assertEqual(broken_at(QUARREL_DOC, (("c", "y"), ("c", "y"))), (1, 0))

    def test_places_keep_the_clause_order(self):
        clause = ("clause", "k", ("z", "b", "a"), (("z", "c", (("x", "z"), ("x", "b"), ("x", "a"))),))
        self.assertEqual(lots_behind(("document", ONE, (clause,)), (("c", "x"),)), (("z", "b", "a"),))

    def test_all_short_histories(self):
        for document in DOCUMENTS:
            for history in plain.histories(document[1], 2)[:80]:
                way = plain.way(document, history)
                self.assertEqual(lots_behind(document, history), way[-1])
                self.assertIs(is_let(document, history), plain.let(document, history))
                broken = [(many, stand.index(())) for many, stand in enumerate(way) if () in stand]
                self.assertEqual(broken_at(document, history), broken[0] if broken else None)

    def test_long_history(self):
        history = (PUT, TAKE) * 100
        self.assertTrue(is_let(STORE_DOC, history))
        self.assertEqual(lots_behind(STORE_DOC, history), BOTH)
        self.assertEqual(broken_at(STORE_DOC, history[:198] + (NONE, TAKE)), (200, 0))
        self.assertEqual(broken_at(samples.plus_chain(25), (("c", "x"),) * 200), (26, 0))

    def test_stand_behind(self):
        self.assertEqual(stand_behind(STORE_DOC, BOTH, "take", "none"), EMPTY)
        self.assertEqual(stand_behind(STORE_DOC, LOST, "take", "none"), LOST)
        self.assertEqual(stand_behind(FREE_DOC, (), "c", "y"), ())
        for document in DOCUMENTS:
            for stand in forms(document)[:60]:
                for call, answer in plain.pairs(document[1]):
                    there = plain.stand_after(document, stand, call, answer)
                    self.assertEqual(stand_behind(document, stand, call, answer), there)


class Ways(unittest.TestCase):
    def told(self, document, at, history):
        clause = document[2][at]
        rows = {(row[0], row[1]): row[2] for row in clause[3]}
        ways = [(clause[2][0],)]
        for call, answer in history:
            longer = []
            for way in ways:
                lets = rows.get((way[-1], call), ((answer, way[-1]),))
                longer += [way + (to,) for told, to in lets if told == answer]
            ways = longer
        return min(ways, key=lambda way: [clause[2].index(place) for place in way], default=None)

    def test_by_hand(self):
        self.assertEqual(first_way(STORE_DOC, 0, ()), ("empty",))
        self.assertEqual(first_way(STORE_DOC, 0, (PUT, TAKE)), ("empty", "some", "empty"))
        self.assertEqual(first_way(STORE_DOC, 0, (PUT, TAKE, TAKE)), ("empty", "some", "some", "empty"))
        self.assertEqual(first_way(STORE_DOC, 0, (PUT, TAKE, NONE)), ("empty", "some", "empty", "empty"))
        self.assertIsNone(first_way(STORE_DOC, 0, (TAKE,)))
        self.assertIsNone(first_way(STORE_DOC, 0, (TAKE, PUT)))

    def test_all_short_histories(self):
        for document in samples.small_documents()[::3] + samples.drawn_documents(60):
            for history in plain.histories(document[1], 3)[:90]:
                for at in range(len(document[2])):
                    way = first_way(document, at, history)
                    self.assertEqual(way, self.told(document, at, history))
                    # A place is in the lot exactly if such a way ends with it.
                    self.assertEqual(way is None, lots_behind(document, history)[at] == ())

    def test_no_other_clause_matters(self):
        self.assertEqual(first_way(QUARREL_DOC, 0, (("c", "x"),) * 3), ("p",) * 4)
        self.assertIsNone(first_way(QUARREL_DOC, 1, (("c", "x"),)))


class Stands(unittest.TestCase):
    def test_by_hand(self):
        self.assertEqual(stands(STORE_DOC), (EMPTY, SOME, BOTH))
        self.assertEqual([history_to(STORE_DOC, s) for s in (EMPTY, SOME, BOTH)], [(), (PUT,), (PUT, TAKE)])
        self.assertEqual(stands(FREE_DOC), ((),))
        self.assertEqual(history_to(FREE_DOC, ()), ())
        self.assertEqual(stands(QUARREL_DOC), ((("p",),) * 3,))

    def test_plain_walk(self):
        for document in samples.small_documents() + samples.drawn_documents(120):
            found = plain.coming(document)
            self.assertEqual(stands(document), tuple(found))
            for stand, history in found.items():
                self.assertEqual(history_to(document, stand), history)

    def test_first_histories(self):
        for document in samples.small_documents()[::11] + samples.drawn_documents(30):
            seen = set()
            for history in plain.histories(document[1], 2):
                stand = plain.way(document, history)[-1]
                if plain.let(document, history) and stand not in seen:
                    seen.add(stand)
                    self.assertEqual(history_to(document, stand), history)

    def test_what_does_not_come(self):
        for stand in (LOST,):
            with self.assertRaises(NotMet):
                history_to(STORE_DOC, stand)
        document = samples.plus_chain(3)
        for stand in forms(document):
            if stand in plain.coming(document):
                self.assertEqual(plain.way(document, history_to(document, stand))[-1], stand)
            else:
                with self.assertRaises(NotMet):
                    history_to(document, stand)

    def test_many(self):
        # Counters of 8 and 25 calls, side by side, come to 200 stands.
        def turning(name, many):
            places = tuple(samples.free(many))
            rows = tuple((p, "c", (("x", places[(at + 1) % many]), ("y", places[(at + 1) % many])))
                         for at, p in enumerate(places))
            return ("clause", name, places, rows)
        document = ("document", ONE, (turning("a", 8), turning("b", 25)))
        self.assertEqual(len(stands(document)), 200)
        self.assertEqual(len(history_to(document, stands(document)[-1])), 199)
        self.assertEqual(safe(document), stands(document))
        self.assertEqual(stands(document)[30], ((samples.free(8)[6],), (samples.free(25)[5],)))
        eight = ("document", ONE, tuple(turning(name, 5) for name in samples.free(8)))
        self.assertEqual(len(stands(eight)), 5)


class Ranks(unittest.TestCase):
    def test_by_hand(self):
        self.assertEqual([rank_of(STORE_DOC, s) for s in (EMPTY, SOME, BOTH, LOST)], [None, None, None, 0])
        self.assertEqual(rank_of(QUARREL_DOC, (("p",),) * 3), 1)
        self.assertEqual(rank_of(QUARREL_DOC, ((), ("p",), ("p",))), 0)
        self.assertIs(is_sound(STORE_DOC), True)
        self.assertIs(is_sound(QUARREL_DOC), False)
        self.assertIs(is_sound(FREE_DOC), True)
        self.assertEqual(safe(FREE_DOC), ((),))
        self.assertEqual(safe(QUARREL_DOC), ())
        self.assertIsNone(rank_of(FREE_DOC, ()))

    def test_plain_ranks(self):
        for document in samples.small_documents() + samples.drawn_documents(120):
            known = plain.ranks(document)
            self.assertEqual(safe(document), tuple(s for s in plain.coming(document) if known[s] is None))
            self.assertIs(is_sound(document), known[plain.first_stand(document)] is None)
            for stand in known:
                self.assertEqual(rank_of(document, stand), known[stand])

    def test_stands_by_their_form(self):
        for document in samples.small_documents()[::5] + samples.drawn_documents(40):
            for stand in forms(document)[:25]:
                self.assertEqual(rank_of(document, stand), plain.ranks(document, stand)[stand])

    def test_long_chains(self):
        for many in (1, 2, 39, 40):
            document = samples.rank_chain(many)
            self.assertEqual([rank_of(document, s) for s in stands(document)], list(range(many, 0, -1)))
            self.assertFalse(is_sound(document))
            self.assertEqual(safe(document), ())
        # Two counters, of 13 and 15 calls, meet at the end of both after 195 calls alone.
        clauses = []
        for name, many in (("a", 13), ("b", 15)):
            places = tuple(samples.free(many + 1))
            rows = [(places[at], "c", tuple((answer, places[(at + 1) % many]) for answer in "xy"))
                    for at in range(many)]
            rows[-1] = (places[many - 1], "c", (("x" if name == "a" else "y", places[0]),))
            clauses.append(("clause", name, places, tuple(rows)))
        document = ("document", ONE, tuple(clauses))
        self.assertEqual(rank_of(document, plain.first_stand(document)), 195)

    def test_facts(self):
        # A stand is safe exactly if some program of two states never breaks the document from there on;
        # here, where two places are all, such a program is enough.
        for document in samples.small_documents()[::4]:
            some = any(plain.right(document, program) for program in plain.programs(ONE, 2))
            if some:
                self.assertTrue(is_sound(document))
        for document in samples.small_documents() + samples.drawn_documents(60):
            known = plain.ranks(document)
            for stand, rank in known.items():
                for call in plain.calls(document[1]):
                    there = [plain.stand_after(document, stand, call, a) for a in plain.answers_of(document[1], call)]
                    best = [rank_of(document, s) for s in there]
                    if rank is None:
                        self.assertIn(None, best)
                    else:
                        self.assertTrue(None in best or max(best) >= rank - 1)


class Errors(unittest.TestCase):
    def test_documents(self):
        for thing in ODD + [list(STORE_DOC), samples.MADE]:
            for asked, rest in ((lots_behind, ((),)), (is_let, (None,)), (broken_at, ((),)), (first_way, (None, None)),
                                (stand_behind, (None, None, None)), (stands, ()), (history_to, (None,)),
                                (rank_of, (None,)), (safe, ()), (is_sound, ())):
                with self.assertRaises(BadDocument):
                    asked(thing, *rest)

    def test_histories(self):
        for thing in ODD + [[PUT], (("put", "none"),), ("put",), (["put", "ok"],), (("c", "x"),)]:
            if thing == () and isinstance(thing, tuple):
                continue
            for asked in (lots_behind, is_let, broken_at):
                with self.assertRaises(BadHistory):
                    asked(STORE_DOC, thing)
            with self.assertRaises(BadHistory):
                first_way(STORE_DOC, 0, thing)

    def test_indexes(self):
        for thing in ODD + [1, -1, "0", (0,), False, True]:
            if type(thing) is int and thing == 0:
                continue
            for history in ((), None):
                with self.assertRaises(BadIndex):
                    first_way(STORE_DOC, thing, history)
        with self.assertRaises(BadIndex):
            first_way(FREE_DOC, 0, ())

    def test_wrong_stands(self):
        wrong = ODD + [(), ((), ()), (("some", "empty"),), (("empty", "empty"),), (["empty"],), [("empty",)],
                       (("p",),), ("empty",), (("empty", "some"), ()), (("ok",),), ((("empty",),),), ("",)]
        for thing in wrong:
            if isinstance(thing, tuple) and thing == ((),):
                continue
            with self.assertRaises(BadStand):
                stand_behind(STORE_DOC, thing, "put", "ok")
            with self.assertRaises(BadStand):
                stand_behind(STORE_DOC, thing, None, None)
            with self.assertRaises(BadStand):
                history_to(STORE_DOC, thing)
            with self.assertRaises(BadStand):
                rank_of(STORE_DOC, thing)
        for asked in (history_to, rank_of):
            with self.assertRaises(BadStand):
                asked(FREE_DOC, ((),))

    def test_calls_and_answers(self):
        for thing in ODD + ["c", "ok", ("put",), ["put"]]:
            for answer in ("ok", None):
                with self.assertRaises(BadCall):
                    stand_behind(STORE_DOC, EMPTY, thing, answer)
            with self.assertRaises(BadAnswer):
                stand_behind(STORE_DOC, EMPTY, "put", thing if thing != "ok" else "none")
        with self.assertRaises(BadAnswer):
            stand_behind(STORE_DOC, EMPTY, "take", "full")

    def test_by_name(self):
        self.assertEqual(lots_behind(history=(PUT,), document=STORE_DOC), SOME)
        self.assertTrue(is_let(history=(PUT,), document=STORE_DOC))
        self.assertEqual(broken_at(history=(TAKE,), document=STORE_DOC), (1, 0))
        self.assertEqual(first_way(history=(PUT,), at=0, document=STORE_DOC), ("empty", "some"))
        self.assertEqual(stand_behind(answer="ok", call="put", stand=EMPTY, document=STORE_DOC), SOME)
        self.assertEqual(len(stands(document=STORE_DOC)), 3)
        self.assertEqual(history_to(stand=SOME, document=STORE_DOC), (PUT,))
        self.assertIsNone(rank_of(stand=SOME, document=STORE_DOC))
        self.assertEqual(len(safe(document=STORE_DOC)), 3)
        self.assertTrue(is_sound(document=STORE_DOC))


if __name__ == "__main__":
    unittest.main()
