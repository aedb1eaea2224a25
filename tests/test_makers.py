"""makers: made and kept [33], only and clause_of [34]; the agreeing of histories [8]."""

import unittest
from itertools import product

from saidandasked.clauses import is_clause
from saidandasked.errors import BadDocument, BadHistories, BadName, BadProgram, Unsound
from saidandasked.makers import clause_of, kept, made, only
from saidandasked.normals import normal, parting
from saidandasked.programs import history
from saidandasked.ranks import safe
from tests import plain, samples
from tests.samples import FREE_DOC, MADE, ODD, ONE, QUARREL_DOC, STORE, STORE_DOC, TWICE_DOC, TWO, ring

DOCUMENTS = samples.small_documents() + samples.drawn_documents(150)
SOUND = [document for document in DOCUMENTS if plain.sound(document)]


def first_answers(document, word, told=()):
    """The answers to a word: those of the told histories, otherwise the first ones that stay safe."""
    known = {}
    for history_told in told:
        for at in range(len(history_told)):
            known[tuple(call for call, _ in history_told[:at + 1])] = history_told[at][1]
    found = ()
    for at, call in enumerate(word):
        answer = known.get(word[:at + 1])
        if answer is None:
            answer = plain.held_answers(document, found, call)[0]
        found += ((call, answer),)
    return found


def disagree(one, other):
    """Whether two histories have unlike answers behind the same calls."""
    for at in range(min(len(one), len(other))):
        same_calls = [c for c, _ in one[:at + 1]] == [c for c, _ in other[:at + 1]]
        if same_calls and one[at][1] != other[at][1]:
            return True
    return False


class Made(unittest.TestCase):
    def test_by_hand(self):
        self.assertEqual(made(STORE_DOC), MADE)
        self.assertEqual(made(FREE_DOC), ring(TWO, 1, ()))
        self.assertEqual(made(TWICE_DOC), ("program", ONE, ((("x", 1),), (("y", 0),))))
        self.assertEqual(len(made(samples.plus_chain(39))[2]), 40)

    def test_all(self):
        for document in SOUND:
            program = made(document)
            self.assertTrue(plain.right(document, program))
            self.assertEqual(program, normal(program))
            self.assertLessEqual(len(program[2]), len(safe(document)))
            for word in plain.words(document[1], 3)[-40:]:
                self.assertEqual(history(program, word), first_answers(document, word))

    def test_errors(self):
        for thing in ODD:
            with self.assertRaises(BadDocument):
                made(thing)
        for document in DOCUMENTS:
            if not plain.sound(document):
                with self.assertRaises(Unsound):
                    made(document)
        self.assertEqual(made(document=STORE_DOC), MADE)


class Kept(unittest.TestCase):
    def expect(self, document, told):
        """What kept tells, by its words; the program is looked at by some words."""
        for one, other in product(range(len(told)), repeat=2):
            if one < other and disagree(told[one], told[other]):
                return "parted", one, other
        for at, history_told in enumerate(told):
            for many in range(len(history_told) + 1):
                if not plain.held(document, history_told[:many]):
                    return "unsafe", at, many
        return "program"

    def check(self, document, told):
        found = kept(document, told)
        expected = self.expect(document, told)
        if expected != "program":
            self.assertEqual(found, expected)
            return
        self.assertEqual((found[0], len(found)), ("program", 2))
        program = found[1]
        self.assertEqual(program, normal(program))
        self.assertTrue(plain.right(document, program))
        for history_told in told:
            word = tuple(call for call, _ in history_told)
            self.assertEqual(history(program, word), history_told)
            for more in plain.words(document[1], 2):
                self.assertEqual(history(program, word + more), first_answers(document, word + more, told))
        for word in plain.words(document[1], 3)[-30:]:
            self.assertEqual(history(program, word), first_answers(document, word, told))

    def test_by_hand(self):
        one = (("put", "ok"), ("take", "ok"), ("take", "none"))
        self.assertEqual(kept(STORE_DOC, [one])[0], "program")
        self.assertEqual(kept(STORE_DOC, ()), ("program", MADE))
        self.assertEqual(kept(STORE_DOC, [()]), ("program", MADE))
        self.assertEqual(kept(STORE_DOC, [one, one[:2] + (("take", "ok"),)]), ("parted", 0, 1))
        self.assertEqual(kept(STORE_DOC, [(), one, one[:1], (("take", "none"), ("take", "ok"))]), ("unsafe", 3, 2))
        self.assertEqual(kept(STORE_DOC, [(("take", "ok"), ("put", "ok")), (("put", "full"),)]), ("unsafe", 0, 1))

    def test_parted(self):
        x, y = (("c", "x"),), (("c", "y"),)
        document = ("document", ONE, ())
        self.assertEqual(kept(document, [x, x + y, y + y, y + x]), ("parted", 0, 2))
        self.assertEqual(kept(document, [(), x + x, x + y, x]), ("parted", 1, 2))
        self.assertEqual(kept(document, [(), x + x, x, x + x + y])[0], "program")
        # Behind calls that are not the same nothing must agree.
        self.assertEqual(kept(FREE_DOC, [(("c", "x"), ("c", "y")), (("d", "y"), ("c", "x"))])[0], "program")
        self.assertEqual(kept(FREE_DOC, [(("c", "x"), ("c", "y")), (("c", "x"), ("d", "y"), ("c", "x"))])[0], "program")
        # What parts goes ahead of what is not safe.
        self.assertEqual(kept(TWICE_DOC, [x + x, y, x]), ("parted", 0, 1))
        self.assertEqual(kept(TWICE_DOC, [x + x, x]), ("unsafe", 0, 2))
        self.assertEqual(kept(TWICE_DOC, [x, x + y, x + y + x + x + x]), ("unsafe", 2, 4))

    def test_unsafe_but_not_broken(self):
        clause = ("clause", "k", ("p", "q"), (("p", "c", (("x", "p"), ("y", "q"))), ("q", "c", ())))
        document = ("document", ONE, (clause,))
        self.assertEqual(kept(document, [(("c", "x"), ("c", "y"))]), ("unsafe", 0, 2))
        self.assertEqual(kept(document, [(("c", "x"), ("c", "y"), ("c", "x"))]), ("unsafe", 0, 2))
        self.assertEqual(kept(document, [(("c", "x"),) * 9]), ("program", ("program", ONE, ((("x", 0),),))))

    def test_small(self):
        told = plain.histories(ONE, 3)
        for document in samples.small_documents()[::7]:
            if plain.sound(document):
                for one in told:
                    self.check(document, [one])
                    self.check(document, (one, told[(len(one) * 5 + 3) % 15]))

    def test_drawn(self):
        import random
        for seed, document in enumerate(SOUND[-90:]):
            draw = random.Random(seed)
            pairs = plain.pairs(document[1])
            for _ in range(4):
                told = [tuple(draw.choice(pairs) for _ in range(draw.randint(0, 3))) for _ in range(draw.randint(0, 3))]
                self.check(document, told)

    def test_histories_of_right_programs(self):
        # All histories of one right program agree, and are kept.
        for seed in range(40):
            document = samples.drawn_document(seed)
            program = samples.drawn_program(seed, document[1], 2)
            if plain.right(document, program):
                told = [plain.told_history(program, word) for word in plain.words(document[1], 3)]
                self.assertEqual(kept(document, told)[0], "program")
                other = kept(document, told)[1]
                self.assertGreater(len(parting(program, other) or (1,) * 4), 3)

    def test_long(self):
        one = (("c", "x"), ("c", "y")) * 100
        program = kept(("document", ONE, ()), [one, (("c", "x"),)])[1]
        self.assertEqual(history(program, ("c",) * 201), one + (("c", "x"),))
        self.assertEqual(len(program[2]), 201)
        told = [one[:at] for at in range(201)]
        self.assertEqual(kept(("document", ONE, ()), told), ("program", program))
        self.assertEqual(kept(TWICE_DOC, told)[0], "program")
        self.assertEqual(kept(TWICE_DOC, told + [one[:199] + (("c", "x"),)]), ("parted", 200, 201))

    def test_errors(self):
        for thing in ODD:
            with self.assertRaises(BadDocument):
                kept(thing, None)
        for thing in ODD + [[None]]:
            with self.assertRaises(Unsound):
                kept(QUARREL_DOC, thing)
        for thing in ODD + ["ab", {(): 1}]:
            if isinstance(thing, (list, tuple)) and all(isinstance(part, tuple) and part == () for part in thing):
                self.assertEqual(kept(STORE_DOC, thing)[0], "program")
                continue
            with self.assertRaises(BadHistories) as caught:
                kept(STORE_DOC, thing)
            if not isinstance(thing, (list, tuple)):
                self.assertIsNone(caught.exception.at)
        for thing in ODD + [[("put", "ok")], (("put", "none"),), (["put", "ok"],)]:
            if not (isinstance(thing, tuple) and thing == ()):
                for told, at in (([thing], 0), (((), thing), 1), ([(), (("put", "full"),), thing, None], 2)):
                    with self.assertRaises(BadHistories) as caught:
                        kept(STORE_DOC, told)
                    self.assertEqual(caught.exception.at, at)
        told = [(("put", "ok"),)]
        kept(histories=told, document=STORE_DOC)
        self.assertEqual(told, [(("put", "ok"),)])


class Only(unittest.TestCase):
    def test_by_hand(self):
        told = only(STORE_DOC)
        self.assertEqual(told[:2], ("open", ("put", "put")))
        self.assertEqual(only(samples.plus_chain(5)), ("only", made(samples.plus_chain(5))))
        self.assertEqual(only(FREE_DOC)[:2], ("open", ("c",)))
        self.assertEqual(only(TWICE_DOC)[:2], ("open", ("c",)))

    def expect(self, document, most):
        """The first word of so many calls or fewer that may have unlike answers, by all held histories."""
        ways = {(): ()}
        for word in plain.words(document[1], most)[1:]:
            found = plain.held_answers(document, ways[word[:-1]], word[-1])
            if len(found) > 1:
                return word
            ways[word] = ways[word[:-1]] + ((word[-1], found[0]),)
        return None

    def test_all(self):
        for document in SOUND:
            told = only(document)
            word = self.expect(document, 3)
            if told[0] == "only":
                self.assertEqual(told, ("only", made(document)))
                self.assertIsNone(word)
                continue
            self.assertEqual((told[0], len(told)), ("open", 4))
            if word is not None or len(told[1]) <= 3:
                self.assertEqual(told[1], word)
            self.assertLessEqual(len(told[1]), len(safe(document)))
            for program in told[2:]:
                self.assertEqual(program, normal(program))
                self.assertTrue(plain.right(document, program))
            self.assertEqual(parting(told[2], told[3]), told[1])

    def test_late(self):
        document = samples.plus_chain(38)
        clause = document[2][0]
        row = (clause[2][38], "c", (("x", clause[2][38]), ("y", clause[2][38])))
        late = ("document", ONE, (clause[:3] + (clause[3][:-1] + (row,),),))
        self.assertEqual(only(late)[1], ("c",) * 39)

    def test_errors(self):
        for thing in ODD:
            with self.assertRaises(BadDocument):
                only(thing)
        with self.assertRaises(Unsound):
            only(QUARREL_DOC)
        self.assertEqual(only(document=STORE_DOC)[0], "open")


class ClauseOf(unittest.TestCase):
    def test_by_hand(self):
        self.assertEqual(clause_of(MADE, "k"), ("clause", "k", ("a", "b"), (
            ("a", "put", (("ok", "b"),)), ("a", "take", (("none", "a"),)),
            ("b", "put", (("ok", "b"),)), ("b", "take", (("ok", "b"),)))))

    def test_only_this_program(self):
        for seed in range(40):
            for house in (ONE, TWO, samples.WIDE):
                program = samples.drawn_program(seed, house, 1 + seed % 5)
                clause = clause_of(program, "name")
                self.assertTrue(is_clause(house, clause))
                self.assertEqual(len(clause[2]), len(normal(program)[2]))
                self.assertEqual(only(("document", house, (clause,))), ("only", normal(program)))

    def test_forty_states(self):
        self.assertEqual(len(clause_of(ring(ONE, 40, (3,)), "k")[2]), 40)
        self.assertEqual(clause_of(ring(ONE, 40, (3,)), "k")[2][26:29], ("aa", "ab", "ac"))
        self.assertEqual(len(clause_of(ring(ONE, 400, tuple(range(0, 400, 40))), "k")[2]), 40)
        with self.assertRaises(BadProgram):
            clause_of(ring(ONE, 41, (3,)), "k")
        with self.assertRaises(BadProgram):
            clause_of(ring(ONE, 41, (3,)), None)

    def test_errors(self):
        for thing in ODD + [STORE_DOC]:
            for name in ("k", None):
                with self.assertRaises(BadProgram):
                    clause_of(thing, name)
        for name in ODD + ["state", "abcdefghi", "K"]:
            if not plain.name_form(name):
                with self.assertRaises(BadName):
                    clause_of(MADE, name)
        self.assertEqual(clause_of(name="k", program=MADE)[1], "k")
        self.assertEqual(plain.calls(STORE), ["put", "take"])


if __name__ == "__main__":
    unittest.main()
