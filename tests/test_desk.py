"""desk: lines that change a document, a history and laws, and ask for them [170]."""

import inspect
import random
import unittest

from saidandasked.budgets import budget
from saidandasked.decided import is_decided
from saidandasked.desk import Desk
from saidandasked.errors import BadDocument, BadOuter, BadText, PageError
from saidandasked.futures import futures
from saidandasked.leads import lots_behind
from saidandasked.makers import made, only
from saidandasked.meanings import alike
from saidandasked.narrow import apart
from saidandasked.pools import idle
from saidandasked.promises import missed
from saidandasked.quarrels import quarrels
from saidandasked.ranks import rank_of
from saidandasked.rights import verdict
from saidandasked.texts import clause_text, text_of
from saidandasked.verdicts import law_verdict
from tests import plain, samples
from tests.samples import (COPIES, ENDLESS, MADE, ODD, ONE, QUARREL_DOC, STORE, STORE_CLAUSE, STORE_DOC, TAKES, TURNED, TWO,
                           one_place, ring)
from tests.test_atop import HAND
from tests.test_covers import document_of_clauses

CALLS = "call put: ok, full call take: ok, none "
FALSE = "law 1 " + CALLS + "node 0 false"


def desk_of(document):
    return Desk(text_of(document))


def listed(thing):
    return thing if isinstance(thing, str) else "(" + " ".join(map(listed, thing)) + ")"


class Says(unittest.TestCase):
    def told(self, desk, *pairs):
        for line, answer in pairs:
            self.assertEqual(desk.say(line), answer, line)

    def test_history(self):
        desk = desk_of(STORE_DOC)
        self.told(desk, ("lots", "((empty))"), ("rank", "safe"), ("saw put ok", "((some))"), ("may take", "(ok)"),
                  ("saw take ok", "((empty some))"), ("may take", "(ok none)"), ("may put", "(ok full)"),
                  ("saw put full", "((some))"), ("saw take none", "(())"), ("rank", "0"), ("may put", "()"),
                  ("saw take none", "(())"), ("lots", "(())"), ("forget", "ok"), ("lots", "((empty))"),
                  ("saw take ok", "(())"), ("undo", "ok"), ("lots", "((empty))"), ("undo", "ok"), ("lots", "(())"))
        two = desk_of(document_of_clauses(STORE, STORE_CLAUSE, one_place("more", "put", ("ok",))))
        self.told(two, ("saw put full", "(() ())"), ("forget", "ok"), ("saw put ok", "((some) (p))"),
                  ("saw put full", "((some) ())"), ("rank", "0"))
        none = desk_of(document_of_clauses(STORE))
        self.told(none, ("lots", "()"), ("saw put full", "()"), ("rank", "safe"), ("may put", "(ok full)"))

    def test_ranks(self):
        desk = desk_of(samples.rank_chain(3))
        self.told(desk, ("rank", "3"), ("may c", "()"), ("saw c x", "((b))"), ("rank", "2"), ("saw c y", "((c))"),
                  ("rank", "1"), ("saw c x", "(())"), ("rank", "0"))
        # An answer may lead to a safe stand also from one that is not safe.
        document = document_of_clauses(TWO, ("clause", "k", ("s", "t"), (("s", "c", (("x", "t"),)), ("s", "d", ()))))
        self.told(desk_of(document), ("rank", "1"), ("may c", "(x)"), ("may d", "()"))

    def test_questions(self):
        desk = desk_of(STORE_DOC)
        self.told(desk, ("first", "()"), ("first put", "(ok)"), ("first take put take put", "(none ok ok ok)"),
                  ("only", "(put put)"), ("futures 0", "1"), ("futures 3", "32"), ("quarrels", "()"), ("idle", "()"),
                  ("decided 3", "no"), ("decided 60", "no"), ("text", text_of(STORE_DOC)))
        self.told(desk_of(QUARREL_DOC), ("quarrels", "((one two) (two three))"), ("only", "error Unsound"), ("rank", "1"),
                  ("first c", "error Unsound"), ("first", "error Unsound"), ("first d", "error Unsound"), ("futures 2", "0"),
                  ("decided 0", "no"), ("decided 1", "yes"), ("idle", "(one three)"))
        chain = desk_of(samples.plus_chain(2))
        self.told(chain, ("only", "yes"), ("first c c c", "(x x y)"), ("futures 9", "1"))
        twice = desk_of(document_of_clauses(ONE, one_place("one", "c", "x"), one_place("two", "c", "x")))
        self.told(twice, ("idle", "(one two)"))

    def test_programs(self):
        desk = desk_of(STORE_DOC)
        one = text_of(ring(STORE, 1, ()))
        self.told(desk, (text_of(MADE), "right"), (one, "breaks (take) store"), ("budget " + text_of(MADE), "0"),
                  ("budget " + one, "none"), ("\n " + one.replace("\n", " "), "breaks (take) store"),
                  ("budget  \n" + text_of(MADE), "0"), ("program", "error BadText"), ("program call", "error BadText"),
                  (text_of(ring(TURNED, 1, ())), "error OtherHouse"), ("budget " + text_of(ring(ONE, 1, ())), "error OtherHouse"),
                  ("budget " + text_of(STORE_DOC), "error BadProgram"), ("budget ", "error BadText"), ("budget", "what"),
                  ("budget house", "error BadText"), ("budget " + text_of(TAKES), "error BadProgram"),
                  ("budget\n" + text_of(MADE), "what"), ("budget program", "error BadText"))
        two = document_of_clauses(STORE, one_place("a", "put", ("ok", "full")), STORE_CLAUSE, one_place("b", "take", ("none",)))
        wrong = ("program", STORE, ((("ok", 1), ("none", 0)), (("ok", 1), ("none", 1))))
        self.told(desk_of(two), (text_of(wrong), "breaks (put take) store"), (text_of(MADE), "breaks (put take) b"))
        self.told(desk_of(QUARREL_DOC), ("budget " + text_of(ring(ONE, 1, ())), "error Unsound"),
                  (text_of(ring(ONE, 1, ())), "breaks (c) two"))
        chain = desk_of(samples.plus_chain(7))
        self.told(chain, ("budget " + text_of(ring(ONE, 1, (0,))), "7"))

    def test_clauses(self):
        desk = desk_of(STORE_DOC)
        same = clause_text(STORE, STORE_CLAUSE)
        self.told(desk, (same, "same"), ("clause more: p", "same"), ("idle", "(more)"),
                  ("clause more: p p put: ok p", "narrower"), ("lots", "((empty) (p))"), ("clause more: p p put: full p", "narrower"),
                  ("quarrels", "((store more))"), ("drop more", "wider"), ("undo", "ok"), ("drop store", "wider"),
                  ("lots", "((p))"), ("drop more", "wider"), ("lots", "()"), ("drop more", "error BadName"),
                  ("clause store: a, b\n a put:\n  full b\n", "narrower"),
                  ("text", "document\ncall put: ok, full\ncall take: ok, none\nclause store: a, b\na put: full b\n"))
        # The history stays as it is.
        desk = desk_of(STORE_DOC)
        self.told(desk, ("saw put ok", "((some))"), ("clause store: a, b a put: full b", "apart"), ("lots", "(())"),
                  ("drop store", "wider"), ("lots", "()"), ("undo", "ok"), ("undo", "ok"), ("lots", "((some))"))
        # What is replaced stays in its place, what is new stands behind all others.
        desk = desk_of(document_of_clauses(ONE, one_place("b", "c", "x"), one_place("a", "c", "x")))
        self.told(desk, ("clause b: p p c: x p, y p", "same"), ("drop a", "wider"), ("clause a: q", "same"),
                  ("clause b: p p c: y p", "narrower"))
        self.assertEqual(desk.say("text"), "document\ncall c: x, y\nclause b: p\np c: y p\nclause a: q\n")

    def test_clauses_that_are_wrong(self):
        desk = desk_of(STORE_DOC)
        for line in ("clause", "clause store", "clause store:", "clause store: p q", "clause store: p p put: none p",
                     "clause store: p p none: ok p", "clause a: p clause b: p", "clause: a", "clause draw: p", "clause put: put x",
                     " clause", "\nclause", "clause a: p program"):
            self.assertEqual(desk.say(line), "error BadText", line)
        self.assertEqual(desk.say("text"), text_of(STORE_DOC))
        self.assertEqual(desk.say("undo"), "error NothingDone")
        for line in ("clauses", "Clause k: p", "the clause k: p", "clause_ k: p"):
            self.assertEqual(desk.say(line), "what")

    def test_nine_clauses(self):
        desk = Desk("document call c: x, y")
        for letter in "abcdefgh":
            self.assertEqual(desk.say(f"clause {letter}: p"), "same")
        self.told(desk, ("clause i: p", "error TooMany"), ("clause i: p q", "error BadText"), ("lots", "(" + " ".join(["(p)"] * 8) + ")"),
                  ("clause h: p p c: x p", "narrower"), ("drop a", "same"), ("clause i: p", "same"), ("undo", "ok"),
                  ("undo", "ok"), ("clause i: p", "error TooMany"), ("redo", "ok"), ("clause i: p", "same"))

    def test_laws(self):
        desk = desk_of(STORE_DOC)
        self.told(desk, ("law one", "error BadName"), ("keep one " + text_of(TAKES), "true"), ("law one", "true"),
                  ("missed store", "(put)"), ("keep two " + text_of(ENDLESS), "never"), ("law two", "never"),
                  ("keep three " + text_of(COPIES), "true"), ("missed store", "error BadLaws"), ("undo", "ok"),
                  ("missed store", "(put)"), ("keep one " + FALSE, "falls"), ("law one", "falls"),
                  ("missed store", "error OverAsks"), ("missed more", "error BadName"), ("undo", "ok"), ("law one", "true"))
        self.told(desk, ("drop store", "wider"), ("law one", "falls"), ("missed store", "error BadName"),
                  ("law three", "error BadName"), ("law store", "error BadName"))
        self.told(desk_of(STORE_DOC), ("missed store", "error BadLaws"), ("missed put", "error BadName"))
        empty = desk_of(QUARREL_DOC)
        self.told(empty, ("keep k law 1 call c: x, y node 0 true", "empty"), ("law k", "empty"), ("missed one", "error Unsound"))
        told = desk_of(document_of_clauses(ONE, one_place("k", "c", "x")))
        self.told(told, ("keep x law 1 call c: x, y node 0 ask 0 c: 1, 2 node 1 true node 2 false", "true"),
                  ("missed k", "(c c)"), ("keep y law 1 call c: x, y node 0 ask 0 c: 0, 1 node 1 false", "never"),
                  ("missed k", "none"))

    def test_laws_that_are_wrong(self):
        desk = desk_of(STORE_DOC)
        self.told(desk, ("keep one ", "error BadText"), ("keep one", "what"), ("keep", "what"), ("keep ", "what"),
                  ("keep One " + FALSE, "what"), ("keep  " + FALSE, "what"), ("keep draw " + FALSE, "what"),
                  ("keep one\n" + FALSE, "what"), ("keep one house " + CALLS, "error BadLaw"),
                  ("keep one " + text_of(STORE_DOC), "error BadLaw"), ("keep one " + text_of(HAND), "error BadLaw"),
                  ("keep one " + FALSE + " node", "error BadText"), ("keep one law", "error BadText"),
                  ("keep one outer call c: x inner call d: y node 0 give x 0", "error BadOuter"),
                  ("keep one law 1 call put: ok, full node 0 true", "error OtherHouse"),
                  ("keep one law 2 " + CALLS + "node 0 ask 0 put: 0, 0", "error BadText"), ("law one", "error BadName"),
                  ("undo", "error NothingDone"), ("keep one  " + FALSE.replace(" ", "\n"), "falls"))

    def test_seven_laws(self):
        desk = desk_of(STORE_DOC)
        for letter in "abcdef":
            self.assertEqual(desk.say(f"keep {letter} {FALSE}"), "falls")
        self.told(desk, ("keep g " + FALSE, "error TooMany"), ("keep g house", "error BadText"),
                  ("keep g " + text_of(ring(STORE, 1, ())), "error BadLaw"),
                  ("keep g law 1 call c: x node 0 true", "error OtherHouse"), ("law g", "error BadName"),
                  ("keep a " + text_of(TAKES), "true"), ("law a", "true"), ("undo", "ok"), ("law a", "falls"), ("undo", "ok"),
                  ("law f", "error BadName"), ("keep g " + FALSE, "falls"))

    def test_laws_in_sequence(self):
        # A law that is kept anew keeps its place; the first one that asks too much is told.
        desk = desk_of(STORE_DOC)
        for name in ("b", "a"):
            desk.say(f"keep {name} {text_of(TAKES)}")
        desk.say("keep b " + text_of(COPIES))
        self.assertEqual([name for name, _ in desk.page[2]], ["b", "a"])
        self.assertEqual(desk.say("missed store"), "error BadLaws")

    def test_undo_and_redo(self):
        desk = Desk("document call c: x, y")
        self.told(desk, ("undo", "error NothingDone"), ("redo", "error NothingUndone"))
        desk.say("clause k: p, q p c: x q")
        for _ in range(60):
            desk.say("saw c x")
        for many in range(60):
            self.assertEqual(desk.say("undo"), "ok")
        self.told(desk, ("lots", "((p))"), ("undo", "ok"), ("lots", "()"), ("undo", "error NothingDone"))
        for _ in range(61):
            self.assertEqual(desk.say("redo"), "ok")
        self.told(desk, ("redo", "error NothingUndone"), ("lots", "((q))"), ("undo", "ok"), ("undo", "ok"), ("redo", "ok"),
                  ("saw c y", "((q))"), ("redo", "error NothingUndone"), ("undo", "ok"), ("redo", "ok"), ("undo", "ok"),
                  ("forget", "ok"), ("lots", "((p))"), ("undo", "ok"), ("lots", "((q))"))
        # An error and a question are no deeds, a deed that changes nothing is one.
        desk = Desk("document call c: x, y clause k: p")
        self.told(desk, ("forget", "ok"), ("undo", "ok"), ("saw c z", "error BadAnswer"), ("lots", "((p))"), ("what", "what"),
                  ("redo", "ok"), ("undo", "ok"), ("clause k: p", "same"), ("redo", "error NothingUndone"), ("undo", "ok"),
                  ("undo", "error NothingDone"))

    def test_what(self):
        desk = desk_of(STORE_DOC)
        for line in ODD + ["", " ", "lots ", " lots", "lots\n", "lots lots", "Lots", "saw", "saw put", "saw put ok ok", "saw put  ok",
                           "saw put OK", "saw call ok", "saw put answer", "forget it", "drop", "drop store store", "drop Store",
                           "may", "may put take", "may PUT", "may put\n", "first Put", "first put ", "first  put", "first call",
                           "only one", "futures", "futures -1", "futures 01", "futures 1000", "futures 00", "futures 1 2",
                           "futures x", "futures 1.", "quarrels 1", "idle 1", "law", "law one two", "law One", "missed",
                           "missed store store", "decided", "decided 01", "decided 1000", "decided ten", "undo 1", "redo 1",
                           "text 1", "say lots", "house call c: x", text_of(STORE_DOC), text_of(TAKES), text_of(HAND), "never",
                           "true", "lots\tlots", "lots\x7f", "\u00e9", "first \u00e9", b"lots", ["lots"], ("lots",), "may law",
                           "law law", "drop clause", "missed node", "may put!", "what"]:
            if isinstance(line, str) and line in ("lots",):
                continue
            self.assertEqual(desk.say(line), "what", line)
        self.assertEqual(desk.say("text"), text_of(STORE_DOC))
        self.assertEqual(desk.say("undo"), "error NothingDone")

    def test_errors_of_lines(self):
        desk = desk_of(STORE_DOC)
        self.told(desk, ("saw give ok", "what"), ("saw get ok", "error BadCall"), ("saw get law", "what"),
                  ("saw put none", "error BadAnswer"), ("saw get none", "error BadCall"), ("may get", "error BadCall"),
                  ("first get", "error BadWord"), ("first put get", "error BadWord"), ("drop put", "error BadName"),
                  ("decided 61", "error BadLimit"), ("decided 999", "error BadLimit"), ("law none", "error BadName"),
                  ("missed none", "error BadName"), ("undo", "error NothingDone"), ("redo", "error NothingUndone"))
        self.assertEqual(desk.say("lots"), "((empty))")

    def test_begun(self):
        for thing in ODD + ["document", "documents", "document call c: x clause", "lots"]:
            with self.assertRaises(BadText):
                Desk(thing)
        for thing in (STORE, MADE, TAKES, HAND):
            with self.assertRaises(BadDocument):
                Desk(text_of(thing))
        with self.assertRaises(BadOuter):
            Desk("outer call c: x inner call d: y node 0 give x 0")
        with self.assertRaises(BadText) as caught:
            Desk("document call c x")
        self.assertEqual((caught.exception.line, caught.exception.column, caught.exception.wanted), (1, 17, (":",)))
        self.assertEqual(Desk(text="document\n\n call c\n: x").say(line="text"), "document\ncall c: x\n")
        self.assertTrue(inspect.isclass(Desk) and Desk.__module__ == "saidandasked.desk")
        self.assertIn("say", vars(Desk))
        self.assertEqual(list(inspect.signature(Desk).parameters), ["text"])
        self.assertEqual(list(inspect.signature(Desk.say).parameters), ["self", "line"])


class Model:
    """A desk by the functions that its questions name, with all its pages."""

    def __init__(self, document):
        self.pages, self.at = [(document, (), ())], 0

    def page(self):
        return self.pages[self.at]

    def deed(self, page):
        self.pages[self.at + 1:] = [page]
        self.at += 1

    def answer(self, asking):
        try:
            return asking()
        except PageError as error:
            return "error " + type(error).__name__


class Drawn(unittest.TestCase):
    def setUp(self):
        self.laws = {seed: samples.drawn_law(seed, TWO, 1, 4) for seed in range(8)}
        self.programs = {seed: samples.drawn_program(seed, TWO, 2) for seed in range(6)}

    def stands(self, new, old):
        narrower, wider = apart(new, old) is None, apart(old, new) is None
        return "same" if narrower and wider else "narrower" if narrower else "wider" if wider else "apart"

    def step(self, draw, model):
        """A line, and what the desk must say to it."""
        document, history, laws = model.page()
        names = [clause[1] for clause in document[2]]
        kind = draw.randrange(20)
        if kind < 3:
            call, answer = draw.choice("cde"), draw.choice("xyz")
            if call == "e" or answer == "z":
                return f"saw {call} {answer}", "error BadCall" if call == "e" else "error BadAnswer"
            model.deed((document, history + ((call, answer),), laws))
            return f"saw {call} {answer}", listed(lots_behind(document, history + ((call, answer),)))
        if kind < 6:
            places = tuple(samples.free(draw.randint(1, 2)))
            clause = samples.drawn_clause(draw, TWO, draw.choice(("k", "l", "m")), places, 0.4, 1.5)
            clauses = [clause if other[1] == clause[1] else other for other in document[2]]
            new = ("document", TWO, tuple(clauses if clause[1] in names else clauses + [clause]))
            model.deed((new, history, laws))
            return clause_text(TWO, clause), self.stands(new, document)
        if kind == 6:
            name = draw.choice(("k", "l", "m"))
            if name not in names:
                return "drop " + name, "error BadName"
            new = ("document", TWO, tuple(clause for clause in document[2] if clause[1] != name))
            model.deed((new, history, laws))
            return "drop " + name, self.stands(new, document)
        if kind == 7:
            name, rule = draw.choice("ab"), self.laws[draw.randrange(8)]
            kept = dict(laws)
            kept[name] = rule
            model.deed((document, history, tuple(kept.items())))
            return f"keep {name} {text_of(rule)}", law_verdict(document, rule)[0]
        if kind in (8, 9, 10):
            if model.at == 0:
                return "undo", "error NothingDone"
            model.at -= 1
            return "undo", "ok"
        if kind == 11:
            if model.at == len(model.pages) - 1:
                return "redo", "error NothingUndone"
            model.at += 1
            return "redo", "ok"
        if kind == 12 and draw.random() < 0.4:
            model.deed((document, (), laws))
            return "forget", "ok"
        return self.question(draw, model)

    def question(self, draw, model):
        document, history, laws = model.page()
        names = [clause[1] for clause in document[2]]
        lots = lots_behind(document, history)
        rank = rank_of(document, lots)
        may = draw.choice("cd")
        safe = [answer for answer in "xy" if rank_of(document, lots_behind(document, history + ((may, answer),))) is None]
        word = tuple(draw.choice("cd") for _ in range(draw.randrange(4)))
        name, many = draw.choice("ab"), draw.randrange(5)
        program = self.programs[draw.randrange(6)]
        found = verdict(document, program)
        told = "right" if found[0] == "right" else f"breaks {listed(found[1])} {names[found[2]]}"
        clause = draw.choice(("k", "l"))

        def missed_word():
            found = missed(document, names.index(clause), [rule for _, rule in laws])
            return "none" if found is None else listed(found[1])

        def word_of_law():
            return law_verdict(document, dict(laws)[name])[0] if name in dict(laws) else "error BadName"

        def costs():
            found = budget(document, program)
            return "none" if found is None else str(found)

        questions = [
            ("lots", lambda: listed(lots)), ("rank", lambda: "safe" if rank is None else str(rank)),
            ("may " + may, lambda: listed(safe)),
            (" ".join(("first",) + word), lambda: listed(plain.trace(made(document), word)[0])),
            ("only", lambda: "yes" if only(document)[0] == "only" else listed(only(document)[1])),
            (f"futures {many}", lambda: str(futures(document, many))), ("quarrels", lambda: listed(quarrels(document))),
            ("idle", lambda: listed([names[at] for at in idle(document)])), ("law " + name, word_of_law),
            ("missed " + clause, lambda: missed_word() if clause in names else "error BadName"),
            (f"decided {many}", lambda: "yes" if is_decided(document, many) else "no"), (text_of(program), lambda: told),
            ("budget " + text_of(program), costs), ("text", lambda: text_of(document))]
        line, asking = draw.choice(questions)
        return line, model.answer(asking)

    def test_drawn(self):
        seen = {}
        for seed in range(60):
            draw = random.Random(seed)
            document = samples.drawn_document(seed, TWO, 1)
            document = ("document", TWO, tuple(("clause", "k") + clause[2:] for clause in document[2]))
            desk, model = desk_of(document), Model(document)
            for _ in range(40):
                line, answer = self.step(draw, model)
                self.assertEqual(desk.say(line), answer, line)
                head = line.split()[0]
                seen.setdefault(head, set()).add(answer.split()[0] if head in ("missed", "law", "budget") else answer[:5])
        self.assertEqual(len(seen), 21, sorted(seen))
        self.assertTrue({"same", "narro", "wider", "apart"} <= seen["clause"])

    def test_equal_desks_answer_alike(self):
        questions = ["lots", "rank", "may c", "first c d c", "only", "futures 2", "quarrels", "idle", "law a", "missed k",
                     "decided 2", "text"] + [text_of(program) for program in self.programs.values()]
        for seed in range(20):
            draw = random.Random(seed)
            document = samples.drawn_document(seed, TWO, 1)
            desk, model = desk_of(document), Model(document)
            for _ in range(30):
                desk.say(self.step(draw, model)[0])
            now, history, laws = model.page()
            other = desk_of(now)
            for call, answer in history:
                other.say(f"saw {call} {answer}")
            for name, rule in laws:
                other.say(f"keep {name} {text_of(rule)}")
            for line in questions:
                self.assertEqual(desk.say(line), other.say(line), line)
        self.assertTrue(alike(document, document))


if __name__ == "__main__":
    unittest.main()
