"""barring: what laws bar [60], normal clauses [61], clauses of laws [62]; lawmaking: laws of clauses [63], fair laws [64]."""

import unittest
from itertools import product

from saidandasked.barring import bars, law_clause, normal_clause
from saidandasked.chains import one_of
from saidandasked.errors import (BadClause, BadDocument, BadHistory, BadHouse, BadLaw, BadName, ManyObjects, OtherHouse,
                                 TooMany)
from saidandasked.lawmaking import fair, law_of
from saidandasked.meanings import alike
from saidandasked.meets import either
from saidandasked.narrow import apart
from saidandasked.overs import over
from saidandasked.verdicts import law_verdict
from tests import plain, samples
from tests.samples import COPIES, FREE_DOC, ODD, ONE, STORE, STORE_CLAUSE, STORE_DOC, TAKES, TURNED, TWICE_DOC, TWO, one_place
from tests.test_covers import document_of_clauses, strict

SMALL = [document[2][0] for document in samples.small_documents()]


def is_barred(rule, history):
    """bars by its words: all ways to false that make a beginning of the history."""
    if not history:
        return False
    queue = [(0, 0)]
    for node, made in queue:
        told = rule[3][node]
        if told[0] == "false":
            return True
        there = []
        if told[0] == "draw":
            there = [(to, made) for to in told[1]]
        elif told[0] == "ask" and made < len(history) and history[made][0] == told[2]:
            answer = plain.answers_of(rule[1], told[2]).index(history[made][1])
            there = [(told[3][answer], made + 1)]
        queue.extend(site for site in dict.fromkeys(there) if site not in queue)
    return False


def moves(house, clause):
    """The dict of the lots to which pairs lead from each lot that comes, without broken ones."""
    found = {}
    queue = [(clause[2][0],)]
    for lot in queue:
        found[lot] = {pair: plain.lot_after(clause, lot, *pair) for pair in plain.pairs(house)}
        queue.extend(there for there in dict.fromkeys(found[lot].values()) if there and there not in queue)
    return found


def unlike(one, first, other, second):
    """Whether some history is let from the one lot and not from the other one."""
    queue = [(first, second)]
    for left, right in queue:
        for pair in one[left]:
            there = one[left][pair], other[right][pair]
            if (there[0] == ()) != (there[1] == ()):
                return True
            if there[0] and there not in queue:
                queue.append(there)
    return False


class Normal(unittest.TestCase):
    def check(self, house, clause):
        """Whether the clause is a normal one."""
        self.assertTrue(plain.clause_form(house, clause))
        places = clause[2]
        rows = {(row[0], row[1]): row[2] for row in clause[3]}
        free = [name for name in samples.free(60)]
        self.assertEqual(list(places), free[:len(places)])
        met = ["a"]
        for place in met:
            for call in house[1]:
                lets = rows.get((place, call[1]))
                if lets is None:
                    continue
                self.assertEqual(len({answer for answer, _ in lets}), len(lets))
                stays = len(lets) == len(call[2]) and all(to == place for _, to in lets)
                self.assertFalse(stays)
                met.extend(to for to in dict.fromkeys(to for _, to in lets) if to not in met)
        self.assertEqual(tuple(met), places)
        told = moves(house, clause)
        for one, other in product(told, repeat=2):
            if one != other:
                self.assertTrue(unlike(told, one, told, other))

    def test_all(self):
        seen = {}
        for clause in SMALL[::2]:
            self.compare(ONE, clause)
        for seed in range(200):
            house = (ONE, TWO, samples.WIDE, STORE)[seed % 4]
            draw = samples.random.Random(seed)
            clause = samples.drawn_clause(draw, house, "any", tuple(samples.free(12)[::-1][:1 + seed % 5]), 0.6, 1.5)
            told = self.compare(house, clause)
            seen[len(told[2])] = seen.get(len(told[2]), 0) + 1
        self.assertGreater(len(seen), 5, seen)

    def compare(self, house, clause):
        told = normal_clause(house, clause)
        self.assertEqual(told[1], clause[1])
        self.check(house, told)
        one, other = moves(house, clause), moves(house, told)
        self.assertFalse(unlike(one, (clause[2][0],), other, ("a",)))
        self.assertEqual(normal_clause(house, told), told)
        return told

    def test_equal_but_for_names(self):
        clauses = SMALL[::17]
        for one, other in product(clauses, repeat=2):
            same = not unlike(moves(ONE, one), ("p",), moves(ONE, other), ("p",))
            self.assertEqual(same, normal_clause(ONE, one) == normal_clause(ONE, other))

    def test_by_hand(self):
        self.assertEqual(normal_clause(ONE, ("clause", "k", ("p", "q"), ())), ("clause", "k", ("a",), ()))
        self.assertEqual(normal_clause(ONE, one_place("k", "c", "xy")), ("clause", "k", ("a",), ()))
        self.assertEqual(normal_clause(ONE, one_place("k", "c", "")), ("clause", "k", ("a",), (("a", "c", ()),)))
        self.assertEqual(normal_clause(STORE, STORE_CLAUSE), ("clause", "store", ("a", "b", "c"), (
            ("a", "put", (("ok", "b"),)), ("a", "take", (("none", "a"),)),
            ("b", "take", (("ok", "c"),)),
            ("c", "put", (("ok", "b"), ("full", "b"))), ("c", "take", (("ok", "c"), ("none", "a"))))))
        self.assertEqual(normal_clause(TURNED, one_place("k", "c", "y"))[3], (("a", "c", (("y", "a"),)),))

    def rings(self, one, other):
        """A clause that goes round two rings side by side, by its lots, and lets y where either is at its first place."""
        places = tuple(samples.free(1 + one + other))
        rows = [(places[0], "c", (("x", places[1]), ("x", places[1 + one])))]
        for start, many in ((1, one), (1 + one, other)):
            for at in range(many):
                to = places[start + (at + 1) % many]
                rows.append((places[start + at], "c", (("x", to), ("y", to))[:1 if at else 2]))
        return ("clause", "k", places, tuple(rows))

    def test_many_places(self):
        places = tuple(samples.free(40))
        rows = [(place, "c", (("x", places[at + 1]),)) for at, place in enumerate(places[:-1])]
        clause = ("clause", "k", places, tuple(rows) + ((places[-1], "c", (("y", places[-1]),)),))
        self.assertEqual(normal_clause(ONE, clause)[2], places)
        self.assertEqual(len(law_of(ONE, clause)[3]), 82)
        # Few places may come together in more lots than there may be places.
        told = self.compare(ONE, self.rings(2, 3))
        self.assertEqual(len(told[2]), 6 + 5)
        for one, other in ((6, 7), (19, 20)):
            for asking in (normal_clause, law_of):
                with self.assertRaises(TooMany):
                    asking(ONE, self.rings(one, other))

    def test_errors(self):
        for thing in ODD:
            if thing != ONE:
                for asking in (normal_clause, law_of):
                    with self.assertRaises(BadHouse):
                        asking(thing, None)
            if not plain.clause_form(TWO, thing):
                for asking in (normal_clause, law_of):
                    with self.assertRaises(BadClause):
                        asking(TWO, thing)
        for asking in (normal_clause, law_of):
            with self.assertRaises(BadClause):
                asking(ONE, STORE_CLAUSE)
        self.assertEqual(normal_clause(clause=STORE_CLAUSE, house=STORE)[1], "store")
        self.assertEqual(law_of(clause=STORE_CLAUSE, house=STORE)[0], "law")


def single_laws(many):
    for seed in range(many):
        house = (ONE, TWO, STORE)[seed % 3]
        yield samples.drawn_law(seed, house, 1, 1 + seed % 8)


class Bars(unittest.TestCase):
    def test_all(self):
        seen = {True: 0, False: 0}
        for rule in single_laws(150):
            for history in plain.histories(rule[1], 4 if rule[1] == ONE else 3):
                told = bars(rule, history)
                self.assertIs(told, is_barred(rule, history))
                seen[told] += 1
        self.assertGreater(min(seen.values()), 300, seen)

    def test_by_hand(self):
        self.assertFalse(bars(TAKES, ()))
        self.assertTrue(bars(TAKES, (("put", "ok"), ("take", "none"))))
        self.assertTrue(bars(TAKES, (("put", "ok"), ("take", "none"), ("put", "full"))))
        self.assertFalse(bars(TAKES, (("put", "ok"), ("take", "ok"))))
        self.assertFalse(bars(TAKES, (("take", "none"), ("put", "ok"))))
        # () is a beginning: what is false at once bars all but ().
        for rule in (("law", ONE, 1, (("false",),)), ("law", ONE, 1, (("draw", (1, 2)), ("true",), ("false",)))):
            self.assertFalse(bars(rule, ()))
            self.assertTrue(bars(rule, (("c", "x"),)))
        # A run without end tells nothing.
        self.assertFalse(bars(("law", ONE, 1, (("ask", 0, "c", (0, 0)),)), (("c", "x"),) * 9))
        self.assertTrue(bars(("law", ONE, 1, (("draw", (0, 1)), ("false",))), (("c", "x"),)))

    def test_programs(self):
        for rule in single_laws(60):
            clause = document_of_clauses(rule[1], law_clause(rule, "k"))
            for program in list(plain.programs(rule[1], 2))[::9]:
                fails = over(program, rule)[0] == "falls"
                histories = [plain.told_history(program, word) for word in plain.words(rule[1], 6 if rule[1] == ONE else 4)]
                if any(bars(rule, history) for history in histories):
                    self.assertTrue(fails)
                self.assertEqual(fails, not plain.right(clause, program))

    def test_errors(self):
        good = ("law", ONE, 1, (("true",),))
        for thing in ODD:
            with self.assertRaises(BadLaw):
                bars(thing, None)
            with self.assertRaises(BadLaw):
                law_clause(thing, None)
            if thing != ():
                with self.assertRaises(BadHistory):
                    bars(good, thing)
            with self.assertRaises(BadName):
                law_clause(good, thing if thing not in ("a", "c") else "law")
        for asking in (bars, law_clause):
            with self.assertRaises(ManyObjects):
                asking(COPIES, None)
        with self.assertRaises(BadHistory):
            bars(good, (("d", "x"),))
        self.assertFalse(bars(history=(), rule=good))
        self.assertEqual(law_clause(name="k", rule=good), ("clause", "k", ("a",), ()))


class Clauses(unittest.TestCase):
    def test_all(self):
        seen = set()
        for rule in single_laws(200):
            clause = law_clause(rule, "told")
            self.assertEqual(clause[1], "told")
            self.assertEqual(normal_clause(rule[1], clause), clause)
            document = document_of_clauses(rule[1], clause)
            for history in plain.histories(rule[1], 4 if rule[1] == ONE else 3):
                self.assertEqual(plain.let(document, history), not is_barred(rule, history))
            seen.add(len(clause[2]))
        self.assertGreater(len(seen), 4, seen)

    def test_heart(self):
        for seed in range(200):
            document = samples.drawn_document(seed, TWO, 2)
            rule = samples.drawn_law(seed, TWO, 1, 1 + seed % 6)
            narrower = apart(document, document_of_clauses(TWO, law_clause(rule, "k"))) is None
            self.assertEqual(law_verdict(document, rule)[0] != "falls", narrower)

    def test_by_hand(self):
        house = ONE
        rule = ("law", house, 1, (("ask", 0, "c", (1, 2)), ("ask", 0, "c", (3, 4)), ("ask", 0, "c", (4, 3)),
                                  ("true",), ("false",)))
        self.assertEqual(law_clause(rule, "same"), ("clause", "same", ("a", "b", "c", "d"), (
            ("a", "c", (("x", "b"), ("y", "c"))), ("b", "c", (("x", "d"),)), ("c", "c", (("y", "d"),)))))
        for nodes in ((("true",),), (("ask", 0, "c", (0, 0)),), (("draw", (0, 1)), ("ask", 0, "c", (0, 1)))):
            self.assertEqual(law_clause(("law", ONE, 1, nodes), "k"), ("clause", "k", ("a",), ()))
        for nodes in ((("false",),), (("draw", (0, 1)), ("false",))):
            self.assertEqual(law_clause(("law", ONE, 1, nodes), "k"), ("clause", "k", ("a",), (("a", "c", ()),)))

    def test_many_places(self):
        def late(many):
            """A law that asks so many times and then is false for y."""
            nodes = tuple(("ask", 0, "c", (at + 1,) * 2) for at in range(many - 1))
            return ("law", ONE, 1, nodes + (("ask", 0, "c", (many, many + 1)), ("true",), ("false",)))
        self.assertEqual(len(law_clause(late(39), "k")[2]), 40)
        with self.assertRaises(TooMany):
            law_clause(late(40), "k")
        # Rings that go round side by side, and bar nothing that is not barred at once: one place is enough.
        rings = [("law", ONE, 1, tuple(("ask", 0, "c", ((at + 1) % many, many if at == 0 else (at + 1) % many))
                                       for at in range(many)) + (("false",),)) for many in (1, 7, 8, 9)]
        self.assertEqual(law_clause(one_of(rings), "k"), ("clause", "k", ("a",), (("a", "c", (("x", "a"),)),)))
        with self.assertRaises(TooMany):
            law_clause(one_of(rings[1:]), "k")
        # One ring of so many places, and much that is barred by it all the same: so many answers y one behind another.
        again = tuple(("ask", 0, "c", ((at + 1) % 7, 7 if at == 0 else (at + 1) % 7)) for at in range(7))
        again += tuple(("ask", 0, "c", (49, at + 1)) for at in range(7, 48)) + (("false",), ("true",))
        for many, good in ((40, True), (41, False)):
            nodes = tuple(("ask", 0, "c", ((at + 1) % many, many if at == 0 else (at + 1) % many)) for at in range(many))
            rule = one_of([("law", ONE, 1, nodes + (("false",),)), ("law", ONE, 1, again)])
            if good:
                self.assertEqual(len(law_clause(rule, "k")[2]), 40)
            else:
                with self.assertRaises(TooMany):
                    law_clause(rule, "k")
        # What comes of draws may be far too much to be gone through.
        wide = ("law", ONE, 1, (("draw", (1, 2)), ("ask", 0, "c", (0, 0)), ("ask", 0, "c", (3, 4)), ("true",)) + tuple(
            ("ask", 0, "c", (at + 1,) * 2) for at in range(4, 16)) + (("ask", 0, "c", (3, 17)), ("false",)))
        for asking in (lambda: law_clause(wide, "k"), lambda: fair(document_of_clauses(ONE, one_place("k", "c", "")), wide)):
            with self.assertRaises(TooMany):
                asking()
        free = document_of_clauses(ONE)
        unsound = document_of_clauses(ONE, one_place("k", "c", ""))
        self.assertEqual(fair(free, late(200)), fair(free, ("law", ONE, 1, (("true",),))))
        with self.assertRaises(TooMany):
            fair(unsound, late(40))
        self.assertEqual(len(fair(unsound, late(39))[3]), 2 * 39 + 2)


def always_ends(rule):
    """Whether no way goes round without other draws than the first next."""
    there = {}
    for at, node in enumerate(rule[3]):
        there[at] = list(node[3]) if node[0] == "ask" else [node[1][0]] if node[0] == "draw" else []
    left = set(there)
    while True:
        ends = {at for at in left if not any(to in left for to in there[at])}
        if not ends:
            return not left
        left -= ends


class Laws(unittest.TestCase):
    def check(self, house, rule, let):
        """That the law bars just the histories that are not let, and always ends."""
        self.assertTrue(plain.law_form(rule))
        self.assertEqual(rule[2], 1)
        self.assertLessEqual(len(rule[3]), 250)
        self.assertTrue(always_ends(rule))
        for history in plain.histories(house, 4 if house == ONE else 3):
            self.assertEqual(is_barred(rule, history), not let(history), history)

    def test_law_of(self):
        for at, clause in enumerate(SMALL[::3]):
            document = document_of_clauses(ONE, clause)
            rule = law_of(ONE, clause)
            self.check(ONE, rule, lambda history: plain.let(document, history))
            self.assertEqual(law_clause(rule, clause[1]), normal_clause(ONE, clause))
        for seed in range(60):
            house = (TWO, STORE, samples.WIDE)[seed % 3]
            draw = samples.random.Random(seed)
            clause = samples.drawn_clause(draw, house, "any", tuple(samples.free(1 + seed % 4)), 0.6, 1.5)
            rule = law_of(house, clause)
            if house != samples.WIDE:
                document = document_of_clauses(house, clause)
                self.check(house, rule, lambda history: plain.let(document, history))
            self.assertEqual(law_clause(rule, "any"), normal_clause(house, clause))

    def test_there_and_back(self):
        for rule in single_laws(60):
            back = law_of(rule[1], law_clause(rule, "k"))
            self.assertTrue(always_ends(back))
            for program in list(plain.programs(rule[1], 2))[::13]:
                self.assertEqual(over(program, back)[0] == "falls", over(program, rule)[0] == "falls")

    def test_great_clauses(self):
        house = ("house", tuple(("call", name, tuple("vwxyz")) for name in "cdefg"))
        places = tuple(samples.free(40))
        rows = tuple((place, call, tuple((answer, places[(at + 1) % 40]) for answer in "vwxy"))
                     for at, place in enumerate(places) for call in "cdefg"[at % 5:])
        rule = law_of(house, ("clause", "k", places, rows))
        self.assertLessEqual(len(rule[3]), 250)
        self.assertTrue(always_ends(rule))
        self.assertEqual(law_clause(rule, "k"), normal_clause(house, ("clause", "k", places, rows)))

    def test_fair(self):
        differ = 0
        for seed in range(150):
            house = (ONE, TWO)[seed % 2]
            document = samples.drawn_document(seed, house, 1 + seed % 2)
            rule = samples.drawn_law(seed, house, 1, 1 + seed % 7)
            told = fair(document, rule)
            holds = lambda history: plain.sound(document) and plain.held(document, history)
            self.check(house, told, lambda history: not is_barred(rule, history) or holds(history))
            self.assertIn(law_verdict(document, told)[0], ("true", "empty"))
            if law_verdict(document, rule)[0] in ("true", "never"):
                self.assertEqual(law_clause(told, "k"), law_clause(rule, "k"))
            else:
                differ += law_clause(told, "k") != law_clause(rule, "k")
            if plain.sound(document):
                self.check_clauses(document, document_of_clauses(house, law_clause(rule, "k")),
                                   document_of_clauses(house, law_clause(told, "l")))
        self.assertGreater(differ, 20)

    def check_clauses(self, document, barring, fairly):
        """How either of the document and the law's clause stands to the fair law's clause."""
        both = either(document, barring)
        self.assertIsNone(apart(both, fairly))
        known = plain.ranks(barring)
        if all(rank is None for rank in known.values()):
            self.assertTrue(alike(both, fairly))

    def test_not_promised(self):
        # The law bars (c, y), which the document holds with all behind it; fair bars nothing.
        clause = ("clause", "k", ("p", "q"), (("p", "c", (("x", "q"), ("y", "q"))), ("p", "d", (("x", "q"),))))
        document = document_of_clauses(TWO, clause)
        rule = ("law", TWO, 1, (("ask", 0, "c", (1, 2)), ("true",), ("false",)))
        self.assertTrue(bars(rule, (("c", "y"),)))
        self.assertEqual(law_clause(fair(document, rule), "k"), ("clause", "k", ("a",), ()))
        self.assertEqual(over(samples.ring(TWO, 1, (0,)), rule)[0], "falls")

    def test_errors(self):
        turned = ("law", TURNED, 1, (("true",),))
        for thing in ODD:
            if not plain.document_form(thing):
                with self.assertRaises(BadDocument):
                    fair(thing, None)
            with self.assertRaises(BadLaw):
                fair(STORE_DOC, thing)
        with self.assertRaises(ManyObjects):
            fair(FREE_DOC, COPIES)
        with self.assertRaises(OtherHouse):
            fair(FREE_DOC, turned)
        self.assertEqual(law_clause(fair(rule=TAKES, document=STORE_DOC), "k"), law_clause(TAKES, "k"))
        self.assertTrue(always_ends(fair(TWICE_DOC, ("law", ONE, 1, (("ask", 0, "c", (0, 0)),)))))
        self.assertIsNotNone(strict(1, ONE))


if __name__ == "__main__":
    unittest.main()
