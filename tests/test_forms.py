"""The forms of things: houses, words, histories [5], clauses, documents [6], programs [8], laws [40], outers [100]."""

import unittest

from saidandasked.clauses import is_clause, is_document
from saidandasked.errors import BadHouse
from saidandasked.houses import is_history, is_house, is_word
from saidandasked.lawforms import is_law
from saidandasked.outers import is_outer
from saidandasked.programs import is_program
from tests import plain, samples
from tests.samples import ONE, STORE, STORE_CLAUSE, STORE_DOC, TWO, WIDE


def house_of(many):
    return ("house", tuple(("call", name, ("x",)) for name in samples.free(many)))


class Houses(unittest.TestCase):
    def test_houses(self):
        for house in (ONE, TWO, WIDE, STORE, samples.TURNED, house_of(1), house_of(5)):
            self.assertIs(is_house(house), True)
        self.assertTrue(is_house(("house", (("call", "c", ("a", "b", "d", "e", "f")),))))
        self.assertTrue(is_house(("house", (("call", "c", ("c",)), ("call", "d", ("c", "d"))))))

    def test_no_houses(self):
        wrong = [
            house_of(0), house_of(6), ("house", (("call", "c", ()),)),
            ("house", (("call", "c", ("a", "b", "d", "e", "f", "g")),)),
            ("house", (("call", "c", ("x", "x")),)), ("house", (("call", "c", ("x",)), ("call", "c", ("y",)))),
            ("house", (("call", "call", ("x",)),)), ("house", (("call", "c", ("true",)),)),
            ("home", (("call", "c", ("x",)),)), ("house", (("cell", "c", ("x",)),)),
            ("house", (("call", "c", ("x",)),), ()), ("house", (("call", "c", ("x",), ()),)),
            ("house", (("call", "c", "x"),)), ("house", ("call", "c", ("x",))),
        ]
        for thing in wrong:
            self.assertIs(is_house(thing), False, thing)

    def test_any_value(self):
        for thing in samples.ODD:
            self.assertIs(is_house(thing), False, thing)
        for house in (ONE, TWO, WIDE, house_of(5)):
            for thing in samples.bent(house):
                self.assertIs(is_house(thing), plain.house_form(thing), thing)

    def test_words(self):
        for word in plain.words(STORE, 3) + [("put",) * 200]:
            self.assertIs(is_word(STORE, word), True)
        for word in (["put"], "put", ("c",), ("put", "ok"), ("put", None), ("put", ["put"]), (("put",),), None):
            self.assertIs(is_word(STORE, word), False, word)
        for thing in samples.ODD:
            self.assertIs(is_word(STORE, thing), thing == () and isinstance(thing, tuple), thing)

    def test_histories(self):
        for history in plain.histories(STORE, 2) + [(("put", "ok"), ("take", "none")) * 100]:
            self.assertIs(is_history(STORE, history), True)
        wrong = [
            [("put", "ok")], (["put", "ok"],), (("put", "none"),), (("take", "full"),), (("ok", "put"),), ("put", "ok"),
            (("put",),), (("put", "ok", "ok"),), (("put", None),), ((None, "ok"),), (("put", ["ok"]),),
            (("put", "ok"), ("put", "no")), (("put", "ok"), ()), ((("put", "ok"),),), (("put", ("ok",)),), None,
        ]
        for thing in wrong:
            self.assertIs(is_history(STORE, thing), False, thing)
        for thing in samples.ODD:
            self.assertIs(is_history(STORE, thing), thing == () and isinstance(thing, tuple), thing)
        # An answer of another call of the house is none.
        self.assertFalse(is_history(WIDE, (("big", "no"),)))

    def test_bad_house(self):
        for house in samples.ODD + [list(ONE), house_of(6)]:
            for asked in (is_word, is_history, is_clause):
                for thing in ((), None, STORE_CLAUSE):
                    with self.assertRaises(BadHouse):
                        asked(house, thing)

    def test_by_name(self):
        self.assertTrue(is_house(thing=ONE))
        self.assertTrue(is_word(thing=("c",), house=ONE))
        self.assertTrue(is_history(thing=(("c", "x"),), house=ONE))


def clause(places=("p", "q"), rows=(), name="k"):
    return ("clause", name, places, rows)


class Clauses(unittest.TestCase):
    def good(self, thing, house=ONE):
        self.assertIs(is_clause(house, thing), True, thing)

    def wrong(self, thing, house=ONE):
        self.assertIs(is_clause(house, thing), False, thing)

    def test_places(self):
        self.good(clause(("p",)))
        self.good(clause(tuple(samples.free(40))))
        self.wrong(clause(tuple(samples.free(41))))
        self.wrong(clause(()))
        self.wrong(clause(("p", "p")))
        self.wrong(clause(("p", "ask")))
        self.wrong(clause(name="clause"))
        self.wrong(clause(name=""))
        self.good(clause(("c", "x", "k"), (("c", "c", (("x", "x"),)),)))

    def test_lets(self):
        for lets in ((), (("x", "p"),), (("x", "p"), ("x", "q"), ("y", "p"), ("y", "q")), (("y", "q"),)):
            self.good(clause(rows=(("p", "c", lets),)))
        for lets in ((("y", "p"), ("x", "p")), (("x", "q"), ("x", "p")), (("x", "p"), ("x", "p")), [],
                     (("z", "p"),), (("x", "r"),), (("x",),), (("x", "p", "q"),), ("x", "p"), (["x", "p"],), None):
            self.wrong(clause(rows=(("p", "c", lets),)))

    def test_rows(self):
        self.good(clause(rows=(("p", "c", ()), ("q", "c", ()))))
        self.wrong(clause(rows=(("q", "c", ()), ("p", "c", ()))))
        self.wrong(clause(rows=(("p", "c", ()), ("p", "c", ()))))
        self.wrong(clause(rows=(("p", "c", ()), ("p", "c", (("x", "p"),)))))
        self.wrong(clause(rows=(("r", "c", ()),)))
        self.wrong(clause(rows=(("p", "d", ()),)))
        self.good(clause(rows=(("p", "c", ()), ("p", "d", ()), ("q", "c", ()))), TWO)
        self.wrong(clause(rows=(("p", "d", ()), ("p", "c", ()))), TWO)
        self.good(clause(rows=(("p", "d", ()), ("p", "c", ()))), samples.TURNED)
        # Order is that of the house and the clause, and not of the letters.
        self.good(clause(("q", "p"), (("q", "zoo", (("no", "p"), ("yes", "q"), ("yes", "p"))), ("q", "at", ()),
                                      ("p", "big", ()))), WIDE)
        self.wrong(clause(("q", "p"), (("q", "zoo", (("no", "p"), ("no", "q"))),)), WIDE)
        self.wrong(clause(("q", "p"), (("q", "zoo", (("yes", "p"), ("no", "p"))),)), WIDE)
        self.wrong(clause(rows=[]))
        self.wrong(clause(rows=(["p", "c", ()],)))

    def test_any_value(self):
        for thing in samples.ODD:
            self.assertIs(is_clause(ONE, thing), plain.clause_form(ONE, thing))
        for seed in range(6):
            document = samples.drawn_document(seed, most=1)
            for told in document[2]:
                for thing in samples.bent(told):
                    self.assertIs(is_clause(document[1], thing), plain.clause_form(document[1], thing), thing)
        for thing in samples.bent(STORE_CLAUSE):
            self.assertIs(is_clause(STORE, thing), plain.clause_form(STORE, thing), thing)

    def test_documents(self):
        self.assertIs(is_document(STORE_DOC), True)
        self.assertIs(is_document(("document", ONE, ())), True)
        self.assertIs(is_document(("document", ONE, (clause(name="a"), clause(name="b")))), True)
        self.assertIs(is_document(("document", ONE, tuple(clause(name=n) for n in samples.free(8)))), True)
        self.assertIs(is_document(("document", ONE, (clause(name="a"), clause(name="a")))), False)
        self.assertIs(is_document(("document", ONE, (clause(("p",), name="a"), clause(name="a")))), False)
        self.assertIs(is_document(("document", ONE, (STORE_CLAUSE,))), False)
        self.assertIs(is_document(("document", ONE, [clause()])), False)
        self.assertIs(is_document(("program", ONE, ())), False)
        for thing in samples.ODD:
            self.assertIs(is_document(thing), plain.document_form(thing), thing)
        for document in [STORE_DOC, samples.QUARREL_DOC] + samples.drawn_documents(5):
            for thing in samples.bent(document):
                self.assertIs(is_document(thing), plain.document_form(thing), thing)

    def test_by_name(self):
        self.assertTrue(is_clause(thing=STORE_CLAUSE, house=STORE))
        self.assertTrue(is_document(thing=STORE_DOC))


class Programs(unittest.TestCase):
    def test_programs(self):
        self.assertIs(is_program(samples.MADE), True)
        self.assertIs(is_program(samples.ring(TWO, 400, (3,))), True)
        self.assertIs(is_program(("program", ONE, ((("y", 0),),))), True)
        for rows in ((), ((("x", 1),),), ((("x", -1),),), ((("x", True),),), ((("x", False),),), ((("z", 0),),),
                     ((("x", 0), ("x", 0)),), ((),), ((["x", 0],),), [(("x", 0),)], ([("x", 0)],), (("x", 0),)):
            self.assertIs(is_program(("program", ONE, rows)), False, rows)
        # Each call has its own answers.
        self.assertFalse(is_program(("program", STORE, ((("none", 0), ("ok", 0)),))))

    def test_any_value(self):
        for thing in samples.ODD:
            self.assertIs(is_program(thing), False, thing)
        for program in (samples.MADE, samples.drawn_program(1, WIDE, 3), samples.ring(ONE, 2, ())):
            for thing in samples.bent(program):
                self.assertIs(is_program(thing), plain.program_form(thing), thing)

    def test_by_name(self):
        self.assertTrue(is_program(thing=samples.MADE))


class Laws(unittest.TestCase):
    def told(self, good, nodes, objects=1, house=ONE):
        self.assertIs(is_law(("law", house, objects, nodes)), good, nodes)

    def test_laws(self):
        for law in (samples.TAKES, samples.ENDLESS, samples.COPIES):
            self.assertIs(is_law(law), True)
        for objects in (1, 2, 3):
            self.told(True, (("true",),), objects)
            self.told(True, (("draw", (1, 2, 2, 1, 2, 1)), ("false",), ("true",)), objects)
            self.told(True, (("ask", objects - 1, "c", (1, 1)), ("false",)), objects)
            self.told(False, (("ask", objects, "c", (1, 1)), ("false",)), objects)
        for objects in (0, 4, -1, True, None, "1", (1,)):
            self.told(False, (("true",),), objects)

    def test_nexts(self):
        self.told(True, (("ask", 0, "c", (0, 0)),))
        self.told(True, (("draw", (0,)),))
        self.told(True, (("true",), ("draw", (0, 1, 0))))
        self.told(False, (("ask", 0, "c", (0, 0)),), 2)
        self.told(False, (("draw", (0,)),), 3)
        self.told(False, (("true",), ("draw", (0,))), 2)
        self.told(False, (("draw", (1,)), ("draw", (1,))), 2)
        self.told(False, (("ask", 0, "c", (1, 0)), ("true",)), 2)
        self.told(False, (("ask", 0, "c", (0, 1)),))
        self.told(False, (("ask", 0, "c", (0, -1)),))
        self.told(False, (("ask", 0, "c", (0, True)), ("true",)))
        self.told(False, (("ask", 0, "c", (0,)),))
        self.told(False, (("ask", 0, "c", (0, 0, 0)),))
        self.told(False, (("ask", 0, "d", (0, 0)),))
        self.told(True, (("ask", 0, "zoo", (0, 0, 0)),), 1, WIDE)
        self.told(False, (("ask", 0, "big", (0, 0, 0)),), 1, WIDE)

    def test_draws(self):
        self.told(False, (("draw", ()),))
        self.told(True, (("draw", (0,) * 6),))
        self.told(False, (("draw", (0,) * 7),))
        self.told(False, (("draw", 0),))

    def test_copies(self):
        self.told(False, (("copy", 0, 0, 0),))
        self.told(False, (("copy", 0, 1, 0),))
        self.told(True, (("copy", 0, 1, 1), ("true",)), 2)
        self.told(True, (("copy", 1, 0, 1), ("true",)), 2)
        self.told(False, (("copy", 1, 1, 1), ("true",)), 2)
        self.told(False, (("copy", 0, 2, 1), ("true",)), 2)
        self.told(True, (("copy", 0, 2, 1), ("true",)), 3)
        self.told(False, (("copy", 0, 1, 0), ("true",)), 2)
        self.told(False, (("copy", False, 1, 1), ("true",)), 2)

    def test_other_nodes(self):
        for nodes in ((), (("true", 0),), ("true",), (("yes",),), (["true"],), [("true",)], (None,), ((),),
                      (("wait", (0,)),), (("draw",),), ((("true",),),)):
            self.told(False, nodes)

    def test_any_value(self):
        for thing in samples.ODD:
            self.assertIs(is_law(thing), False, thing)
        for rule in (samples.TAKES, samples.COPIES, samples.drawn_law(3, WIDE, 3, 6), samples.drawn_law(4, ONE, 1, 5)):
            self.assertIs(is_law(rule), True)
            for thing in samples.bent(rule):
                self.assertIs(is_law(thing), plain.law_form(thing), thing)
        self.assertTrue(is_law(thing=samples.TAKES))


INNER = ("house", (("call", "q", ("x", "y")),))
ABOVE = ("house", (("call", "c", ("no", "yes")),))
BOTH = ("house", (("call", "c", ("no", "yes")), ("call", "d", ("no", "may"))))
NODES = (("wait", (1,)), ("inner", "q", (2, 3)), ("answer", "yes", 0), ("answer", "no", 0))


class Outers(unittest.TestCase):
    def told(self, good, nodes, house=ABOVE, inner=INNER):
        self.assertIs(is_outer(("outer", house, inner, nodes)), good, nodes)

    def test_outers(self):
        self.told(True, NODES)
        self.told(True, (("wait", (1,)), ("answer", "no", 0)))
        self.told(True, (("wait", (1,)), ("answer", "no", 2), ("wait", (1,))))
        self.told(True, (("wait", (1, 2)), ("answer", "no", 0), ("answer", "may", 0)), BOTH)
        self.told(True, (("wait", (1, 1)), ("answer", "no", 0)), BOTH)

    def test_houses(self):
        self.told(False, NODES, ABOVE, ABOVE)
        self.told(False, NODES, ABOVE, ("house", (("call", "c", ("x", "y")),)))
        four = ("house", tuple(("call", name, ("x", "y")) for name in ("q", "r", "s", "t")))
        five = ("house", tuple(("call", name, ("x", "y")) for name in ("q", "r", "s", "t", "u")))
        self.told(True, NODES, ABOVE, four)
        self.told(False, NODES, ABOVE, five)
        self.told(False, NODES, ABOVE, None)
        self.told(False, NODES, None)
        wide = ("house", tuple(("call", name, ("no", "yes")) for name in ("c", "d", "e", "f")))
        self.told(True, (("wait", (1, 1, 1, 1)), ("answer", "no", 0)), wide, INNER)

    def test_how_many(self):
        self.told(False, ())
        long = (("wait", (1,)), ("answer", "no", 0)) + (("wait", (1,)),) * 398
        self.told(True, long)
        self.told(False, long + (("wait", (1,)),))
        chain = [("wait", (1,))] + [("inner", "q", (at + 1, at + 1)) for at in range(1, 399)] + [("answer", "no", 0)]
        self.told(True, tuple(chain))

    def test_where_nodes_lead(self):
        self.told(False, (("answer", "no", 1), ("wait", (0,))))
        self.told(False, (("wait", (0,)),))
        self.told(False, (("wait", (1,)), ("answer", "no", 1)))
        self.told(False, (("wait", (1,)), ("inner", "q", (2, 0)), ("answer", "no", 0)))
        self.told(False, (("wait", (1,)), ("inner", "q", (2, 1)), ("answer", "no", 0)))
        self.told(False, (("wait", (2,)), ("answer", "no", 0), ("inner", "q", (1, 1))))
        self.told(False, (("wait", (1,)), ("answer", "no", 2)))
        self.told(False, (("wait", (1,)), ("answer", "no", 0), ("answer", "no", 1)))
        self.told(False, (("wait", (1, 1)), ("answer", "no", 0)))
        self.told(False, (("wait", (1,)), ("inner", "c", (2, 2)), ("answer", "no", 0)))
        self.told(False, (("wait", (1,)), ("inner", "q", (2,)), ("answer", "no", 0)))
        self.told(False, (("wait", (True,)), ("answer", "no", 0)))
        self.told(False, (("wait", (1,)), ("answer", "no", False)))

    def test_served_calls(self):
        self.told(False, (("wait", (1,)), ("answer", "may", 0)))
        self.told(False, (("wait", (1, 1)), ("answer", "yes", 0)), BOTH)
        self.told(False, (("wait", (1, 1)), ("answer", "may", 0)), BOTH)
        self.told(False, (("wait", (1, 2)), ("inner", "q", (2, 2)), ("answer", "may", 0)), BOTH)
        self.told(False, (("wait", (1, 3)), ("inner", "q", (2, 4)), ("inner", "q", (3, 4)), ("answer", "may", 0),
                          ("answer", "yes", 0)), BOTH)
        self.told(True, (("wait", (1, 2)), ("inner", "q", (2, 3)), ("answer", "no", 0), ("answer", "yes", 0)), BOTH)
        # A node that serves no call has an answer of any call; wait nodes that do not come serve as well.
        self.told(True, (("wait", (1, 1)), ("answer", "no", 0), ("answer", "may", 0)), BOTH)
        self.told(False, (("wait", (1, 1)), ("answer", "no", 0), ("answer", "x", 0)), BOTH)
        self.told(False, (("wait", (1, 1)), ("answer", "no", 0), ("answer", "may", 0), ("wait", (2, 1))), BOTH)
        self.told(True, (("wait", (1, 1)), ("answer", "no", 0), ("answer", "may", 0), ("wait", (1, 2))), BOTH)
        # An inner node that nothing leads to serves nothing.
        self.told(True, (("wait", (1, 1)), ("answer", "no", 0), ("inner", "q", (3, 3)), ("answer", "may", 0)), BOTH)

    def test_any_value(self):
        for thing in samples.ODD:
            self.assertIs(is_outer(thing), False, thing)
        known = {("outer", ABOVE, INNER, NODES)}
        for thing in samples.bent(("outer", ABOVE, INNER, NODES)):
            if isinstance(thing, tuple) and is_outer(thing):
                known.add(thing)
                # What else is an outer thing is told by its parts.
                self.assertEqual(len(thing), 4)
                self.assertTrue(plain.house_form(thing[1]) and plain.house_form(thing[2]))
                self.assertFalse(set(plain.calls(thing[1])) & set(plain.calls(thing[2])))
                for node in thing[3]:
                    self.assertIn(node[0], ("wait", "inner", "answer"))
                    if node[0] == "answer":
                        self.assertEqual(thing[3][node[2]][0], "wait")
                    else:
                        self.assertTrue(all(type(to) is int and thing[3][to][0] != "wait" for to in node[-1]))
        self.assertIs(is_outer(thing=("outer", ABOVE, INNER, NODES)), True)
        self.assertIs(is_outer(list(("outer", ABOVE, INNER, NODES))), False)


if __name__ == "__main__":
    unittest.main()
