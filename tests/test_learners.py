"""learners: a program is found by asking [80] to [82]; tellings: what was told, as a clause [83]; the example of [86]."""

import copy
import inspect
import random
import unittest
from itertools import product

from saidandasked import learners
from saidandasked.drafts import fewest
from saidandasked.errors import (BadAnswers, BadDocument, BadHistories, BadHouse, BadName, BadProgram, BadWord,
                                 NoDifference, NotAsked, NotGuessed, NotPossible, NotRight, OtherHouse, TooMany, Unsound)
from saidandasked.learners import Learner, learn
from saidandasked.makers import made
from saidandasked.mending import mended
from saidandasked.normals import normal, parting
from saidandasked.stands import stands
from saidandasked.tellings import told_clause
from tests import plain, samples
from tests.samples import (FREE_DOC, MADE, ODD, ONCE_DOC, ONE, QUARREL_DOC, STORE, STORE_DOC, TURNED, TWICE_DOC, TWO,
                           WIDE, one_place, ring)
from tests.test_covers import document_of_clauses
from tests.test_decided import documents

SMALL = samples.small_documents()
SOUND = [document for document in list(documents(60)) + SMALL[::19] if plain.sound(document)]


def agree(one, other):
    for left, right in zip(one, other):
        if left[0] != right[0]:
            return True
        if left[1] != right[1]:
            return False
    return True


def possible(document, told, word):
    """All tuples of answers that are possible for the word, by the words of the document."""
    found = [()]
    for call in word:
        longer = []
        for history in found:
            for answer in plain.answers_of(document[1], call):
                new = history + ((call, answer),)
                if plain.held(document, new) and all(agree(new, other) for other in told):
                    longer.append(new)
        found = longer
    return [tuple(answer for _, answer in history) for history in found]


def first_impossible(document, told, word, answers):
    for many in range(1, len(word) + 1):
        history = tuple(zip(word[:many], answers))
        if not plain.held(document, history) or not all(agree(history, other) for other in told):
            return many - 1
    return None


def has_all(program, told):
    return all(plain.told_history(program, tuple(call for call, _ in history)) == history for history in told)


def normals(house, most):
    return list(dict.fromkeys(normal(program) for program in plain.programs(house, most)))


NORMALS = {house: normals(house, most) for house, most in ((ONE, 3), (TWO, 2))}


class Teller:
    """Teaches a learner, and looks at all that it asks."""

    def __init__(self, case, document, program, draw):
        self.case, self.document, self.program, self.draw = case, document, program, draw
        self.learner = Learner(document)
        self.asked, self.guesses, self.longest = 0, [], 0

    def teach(self):
        for _ in range(2000):
            want = self.learner.wants()
            self.case.assertEqual(self.learner.wants(), want)
            self.case.assertIs(type(want), tuple)
            self.case.assertEqual(len(want), 2)
            if want[0] == "word":
                self.told_word(want[1])
            elif want[0] == "guess":
                self.told_guess(want[1])
            else:
                self.case.assertEqual(want, ("known", normal(self.program)))
                self.check_counts()
                return self
        self.case.fail("never known")

    def told_word(self, word):
        self.asked += 1
        self.case.assertTrue(word and set(word) <= set(plain.calls(self.document[1])))
        if len(word) < 9:
            self.case.assertGreater(len(possible(self.document, self.learner.told(), word)), 1)
        self.learner.answer(plain.trace(self.program, word)[0])
        self.case.assertEqual(self.learner.told()[-1], plain.told_history(self.program, word))

    def told_guess(self, guess):
        case = self.case
        case.assertTrue(plain.program_form(guess) and guess[1] == self.document[1])
        case.assertEqual(normal(guess), guess)
        case.assertTrue(plain.right(self.document, guess))
        told = self.learner.told()
        case.assertTrue(has_all(guess, told))
        for other in NORMALS.get(guess[1], []):
            if other != guess and len(other[2]) <= len(guess[2]) and has_all(other, told):
                case.assertFalse(plain.right(self.document, other))
        if self.guesses:
            case.assertGreater(len(guess[2]), len(self.guesses[-1][2]))
        self.guesses.append(guess)
        word = parting(guess, self.program)
        if word is None:
            case.assertIsNone(self.learner.agrees())
            return
        # Any word that is answered otherwise will do, also one that goes on behind that.
        word += tuple(self.draw.choice(plain.calls(self.document[1])) for _ in range(self.draw.randrange(4)))
        self.longest = max(self.longest, len(word))
        case.assertIsNone(self.learner.differs(word, list(plain.trace(self.program, word)[0])))

    def check_counts(self):
        n, k = len(normal(self.program)[2]), len(self.document[1][1])
        m = max(n * len(stands(self.document)), self.longest)
        self.case.assertLessEqual(self.asked, (n * k + 1) * (n + k) + n * (n + m))
        self.case.assertLessEqual(len(self.guesses), n)
        self.case.assertEqual(self.guesses[-1], normal(self.program))


def remembering(seed, house):
    """A sound document whose places lead on, each answer to one place, and let both answers at most of them."""
    draw = random.Random(seed)
    places = tuple(samples.free(draw.randint(4, 8)))
    rows = []
    for at, place in enumerate(places):
        for call in house[1]:
            told = draw.choice((("x", "y"), ("x", "y"), ("x",), ("y",)))
            rows.append((place, call[1], tuple((answer, places[(at + draw.randint(1, 2)) % len(places)]) for answer in told)))
    return document_of_clauses(house, ("clause", "far", places, tuple(rows)))


class Learners(unittest.TestCase):
    def test_all_small_programs(self):
        count = 0
        draw = random.Random(1)
        for document in SOUND:
            for program in plain.programs(document[1], 3 if document[1] == ONE else 2):
                if draw.random() < (0.2 if document[1] == ONE else 0.1) and plain.right(document, program):
                    teller = Teller(self, document, program, draw).teach()
                    count += len(teller.guesses) > 1
        self.assertGreater(count, 150)

    def test_drawn_programs(self):
        draw = random.Random(2)
        for seed in range(60):
            house = (ONE, TWO, STORE, WIDE)[seed % 4]
            document = ("document", house, ())
            if seed % 3 == 0:
                document = document_of_clauses(house, one_place("k", house[1][0][1], house[1][0][2][:2]))
            program = samples.drawn_program(seed, house, 2 + seed % 14)
            program = program if plain.right(document, program) else made(document)
            Teller(self, document, program, draw).teach()
        for many in (3, 9, 20):
            Teller(self, ("document", ONE, ()), ring(ONE, many, (many // 2,)), draw).teach()
            Teller(self, FREE_DOC, ring(TWO, many, (0, many - 1)), draw).teach()
        for many in (1, 5, 12):
            # The document says one program alone: nothing is asked.
            document = samples.plus_chain(many)
            teller = Teller(self, document, made(document), draw).teach()
            self.assertEqual((teller.asked, len(teller.guesses), teller.learner.told()), (0, 1, []))

    def test_long_ways(self):
        # Programs that are unlike far behind alone, and documents that remember much.
        draw = random.Random(3)
        guesses = 0
        for seed in range(40):
            house = (ONE, TWO)[seed % 2]
            many = 6 + seed % 15
            rows = []
            for at in range(many):
                goal = (at + 1) % many if draw.random() < 0.8 else draw.randrange(many)
                rows.append(tuple(("y" if draw.random() < 0.15 else "x", goal) for _ in house[1]))
            program = ("program", house, tuple(rows))
            document = ("document", house, ())
            if seed % 4 > 1:
                document = remembering(seed, house)
                program = mended(document, program)
            if len(normal(program)[2]) < 60:
                guesses = max(guesses, len(Teller(self, document, program, draw).teach().guesses))
        self.assertGreater(guesses, 4)

    def test_tellers_without_a_program(self):
        # Whatever is told, if it is possible: there need be no program of few states that has it all.
        draw = random.Random(4)
        for seed, document in enumerate(SOUND[::3] + [remembering(seed, TWO) for seed in range(12)] + [FREE_DOC, STORE_DOC]):
            learner = Learner(document)
            before = 0
            for _ in range(40):
                kind, thing = learner.wants()
                told = learner.told()
                if kind == "word":
                    learner.answer(self.drawn_answers(draw, document, told, thing))
                    continue
                self.assertEqual(normal(thing), thing)
                self.assertTrue(plain.right(document, thing) and has_all(thing, told))
                self.assertGreater(len(thing[2]), before)
                before = len(thing[2])
                for _ in range(20):
                    word = tuple(draw.choice(plain.calls(document[1])) for _ in range(draw.randint(1, 6)))
                    answers = self.drawn_answers(draw, document, told, word)
                    if answers != plain.trace(thing, word)[0]:
                        learner.differs(word, answers)
                        break
                else:
                    learner.agrees()
                    self.assertEqual(learner.wants(), ("known", thing))
                    break

    def drawn_answers(self, draw, document, told, word):
        """Answers that are possible."""
        history = ()
        for call in word:
            held = [answer for answer in plain.held_answers(document, history, call)
                    if all(agree(history + ((call, answer),), other) for other in told)]
            history += ((call, draw.choice(held)),)
        return tuple(answer for _, answer in history)

    def test_guess_is_wrong_by_the_document(self):
        # Nothing that is asked first tells it, but the document: behind ten calls the answer is y.
        places = tuple(samples.free(11))
        rows = [(place, "c", (("x", places[at + 1]), ("y", places[at + 1]))) for at, place in enumerate(places[:-1])]
        document = document_of_clauses(ONE, ("clause", "k", places, tuple(rows) + ((places[10], "c", (("y", places[10]),)),)))
        program = ring(ONE, 11, ())
        program = ("program", ONE, program[2][:10] + ((("y", 10),),))
        self.assertTrue(plain.right(document, program))
        teller = Teller(self, document, program, random.Random(3)).teach()
        self.assertLessEqual(len(teller.guesses), 2)

    def test_by_hand(self):
        learner = Learner(TWICE_DOC)
        known, told = learn(TWICE_DOC, ("program", ONE, ((("x", 1),), (("y", 0),))))
        self.assertEqual(known, ("program", ONE, ((("x", 1),), (("y", 0),))))
        self.assertIs(type(told), list)
        self.assertEqual(learner.wants(), ("word", ("c",)))
        learner.answer(("x",))
        # The second answer is told by the document.
        self.assertGreater(len(learner.wants()[1]), 2)
        while learner.wants()[0] == "word":
            word = learner.wants()[1]
            learner.answer(["xy"[at % 2] for at in range(len(word))])
        self.assertEqual(learner.wants(), ("guess", known))
        learner.agrees()
        self.assertEqual(learner.wants(), ("known", known))

    def test_learn(self):
        for number, document in enumerate(SOUND):
            for program in NORMALS[document[1]][number % 13::13]:
                if plain.right(document, program):
                    known, told = learn(document, program)
                    self.assertEqual(known, program)
                    self.assertTrue(has_all(program, told))
                else:
                    with self.assertRaises(NotRight) as caught:
                        learn(document, program)
                    word = caught.exception.word
                    self.assertFalse(plain.let(document, plain.told_history(program, word)))
                    shorter = [other for other in plain.words(document[1], len(word)) if other != word]
                    for other in shorter[:shorter.index(word) if word in shorter else len(shorter)]:
                        if len(other) < len(word):
                            self.assertTrue(plain.let(document, plain.told_history(program, other)))
        program = samples.drawn_program(7, TWO, 40)
        self.assertEqual(learn(FREE_DOC, program)[0], normal(program))
        twice = ("program", STORE, MADE[2] + MADE[2])
        self.assertEqual(learn(program=twice, document=STORE_DOC)[0], MADE)
        # It is told, of a guess, the first word that it answers otherwise.
        learner, told = Learner(FREE_DOC), []
        while learner.wants()[0] != "known":
            kind, thing = learner.wants()
            word = thing if kind == "word" else parting(thing, program)
            if word is None:
                learner.agrees()
            else:
                told.append(plain.told_history(program, word))
                if kind == "word":
                    learner.answer(plain.trace(program, word)[0])
                else:
                    learner.differs(word, plain.trace(program, word)[0])
        self.assertEqual(learn(FREE_DOC, program)[1], told)

    def guessing(self, document, program, guesses=1):
        """A learner that has guessed so often, each time but the last being told a word that differs."""
        learner = Learner(document)
        while True:
            kind, thing = learner.wants()
            if kind == "word":
                learner.answer(plain.trace(program, thing)[0])
            elif guesses == 1:
                return learner
            else:
                guesses -= 1
                learner.differs(parting(thing, program), plain.trace(program, parting(thing, program))[0])

    def test_deeds_that_are_not_wanted(self):
        learner = Learner(TWICE_DOC)
        self.assertEqual(learner.wants()[0], "word")
        for deed in (learner.agrees, lambda: learner.differs(("c",), ("x",)), lambda: learner.differs(("c",), None)):
            with self.assertRaises(NotGuessed):
                deed()
        with self.assertRaises(BadWord):
            learner.differs(None, ("x",))
        self.assertEqual(learner.told(), [])
        learner = self.guessing(TWICE_DOC, made(TWICE_DOC))
        for answers in (("x",), None):
            with self.assertRaises(NotAsked):
                learner.answer(answers)
        learner.agrees()
        with self.assertRaises(NotGuessed):
            learner.agrees()
        with self.assertRaises(NotGuessed):
            learner.differs(("c",), ("y",))
        with self.assertRaises(NotAsked):
            learner.answer(())
        self.assertEqual(learner.wants()[0], "known")

    def check_answers(self, learner, document, word, deed):
        """Whatever is told, it is judged by its words; what is wrong changes nothing."""
        want, told = learner.wants(), learner.told()
        mixed = [["x"] * at + [other] + ["x"] * (len(word) - at - 1) for at in range(len(word)) for other in ("z", None, ["x"])]
        for answers in ODD + mixed + [("x",) * (len(word) + 1), ("x",) * (len(word) - 1), ("z",) * len(word)]:
            if answers not in ([], ()) or word:
                with self.assertRaises(BadAnswers):
                    deed(learner, answers)
        impossible = set()
        for answers in product(*[plain.answers_of(document[1], call) for call in word]):
            at = first_impossible(document, told, word, answers)
            twin = learner.copied()
            if at is not None:
                impossible.add(at)
                with self.assertRaises(NotPossible) as caught:
                    deed(twin, answers)
                self.assertEqual(caught.exception.at, at)
                self.assertEqual((twin.wants(), twin.told()), (want, told))
            else:
                kind, guess = want
                if kind == "guess" and plain.trace(guess, word)[0] == answers:
                    with self.assertRaises(NoDifference):
                        deed(twin, answers)
                    self.assertEqual((twin.wants(), twin.told()), (want, told))
                else:
                    self.assertIsNone(deed(twin, list(answers)))
                    self.assertEqual(twin.told(), told + [tuple(zip(word, answers))])
        self.assertEqual((learner.wants(), learner.told()), (want, told))
        return impossible

    def test_answers_that_are_not_possible(self):
        seen = set()
        for number, document in enumerate(SOUND[::2] + [STORE_DOC, TWICE_DOC]):
            program = made(document)
            learner = Learner(document)
            for _ in range(4):
                if learner.wants()[0] == "word" and len(learner.wants()[1]) < 6:
                    word = learner.wants()[1]
                    seen |= self.check_answers(learner, document, word, lambda twin, answers: twin.answer(answers))
                    learner.answer(plain.trace(program, word)[0])
            learner = self.guessing(document, program)
            for word in plain.words(document[1], 3)[1 + number % 2::3]:
                seen |= self.check_answers(learner, document, word, lambda twin, answers: twin.differs(word, answers))
        self.assertTrue({0, 1, 2} <= seen, seen)

    def test_differs(self):
        learner = self.guessing(FREE_DOC, ring(TWO, 1, ()))
        for word in ODD + [("c", "e"), ["c"], "c", ("c", None)]:
            with self.assertRaises(BadWord):
                learner.differs(word, ("x",))
        with self.assertRaises(BadWord):
            learner.differs((), ())
        with self.assertRaises(NoDifference):
            learner.differs(answers=("x", "x"), word=("d", "c"))
        learner.differs(word=("d", "d", "c"), answers=("x", "x", "y"))
        self.assertEqual(learner.told()[-1], (("d", "x"), ("d", "x"), ("c", "y")))

    def test_copies_and_lists_of_their_own(self):
        program, other = ring(TWO, 5, (3,)), ring(TWO, 4, (1, 3))
        learner = Learner(FREE_DOC)
        for step in range(40):
            if learner.wants()[0] != "word":
                break
            told = learner.told()
            twin = learner.copied()
            self.assertIsInstance(twin, Learner)
            self.assertEqual((twin.wants(), twin.told()), (learner.wants(), learner.told()))
            # The copy goes on with another program, and nothing becomes of that here.
            before = copy.deepcopy((learner.wants(), learner.told()))
            while has_all(other, twin.told()) and twin.wants()[0] == "word":
                twin.answer(plain.trace(other, twin.wants()[1])[0])
            self.assertEqual((learner.wants(), learner.told()), before)
            told.append("more")
            told.clear()
            self.assertEqual(learner.told(), before[1])
            learner.answer(plain.trace(program, learner.wants()[1])[0])
        taught = Teller(self, FREE_DOC, program, random.Random(4))
        taught.learner = learner.copied()
        taught.teach()
        self.assertEqual(learner.wants()[0], "guess")
        self.assertNotEqual(learner, learner.copied())

    def test_copies_at_each_step(self):
        # A copy of each step goes on as the learner itself does.
        program = samples.drawn_program(11, TWO, 7)
        learner, twins = Learner(FREE_DOC), []
        while learner.wants()[0] != "known":
            twins.append((learner.copied(), learner.wants()))
            self.one_step(learner, program)
        for twin, want in twins[::3]:
            self.assertEqual(twin.wants(), want)
            while twin.wants()[0] != "known":
                self.one_step(twin, program)
            self.assertEqual((twin.wants(), twin.told()), (learner.wants(), learner.told()))

    def one_step(self, learner, program):
        kind, thing = learner.wants()
        word = thing if kind == "word" else parting(thing, program)
        if word is None:
            learner.agrees()
        elif kind == "word":
            learner.answer(plain.trace(program, word)[0])
        else:
            learner.differs(word, plain.trace(program, word)[0])

    def test_errors(self):
        for thing in ODD:
            if not plain.document_form(thing):
                with self.assertRaises(BadDocument):
                    Learner(thing)
                with self.assertRaises(BadDocument):
                    learn(thing, None)
            with self.assertRaises(BadProgram):
                learn(STORE_DOC, thing)
            with self.assertRaises(Unsound):
                learn(QUARREL_DOC, thing)
        with self.assertRaises(Unsound):
            Learner(QUARREL_DOC)
        with self.assertRaises(OtherHouse):
            learn(("document", TURNED, ()), ring(TWO, 1, ()))
        with self.assertRaises(NotRight) as caught:
            learn(STORE_DOC, ring(STORE, 1, ()))
        self.assertEqual(caught.exception.word, ("take",))
        self.assertEqual(Learner(document=STORE_DOC).wants(), Learner(STORE_DOC).wants())

    def test_names(self):
        self.assertTrue(inspect.isclass(Learner) and Learner.__module__ == "saidandasked.learners")
        told = {"wants": [], "answer": ["answers"], "differs": ["word", "answers"], "agrees": [], "told": [], "copied": []}
        for name, names in told.items():
            self.assertIn(name, vars(Learner))
            self.assertEqual(list(inspect.signature(vars(Learner)[name]).parameters), ["self"] + names)
        self.assertEqual(list(inspect.signature(learners.learn).parameters), ["document", "program"])
        self.assertEqual(list(inspect.signature(Learner).parameters), ["document"])


def clause_by_words(house, told, name):
    """told_clause by the words of the document."""
    starts = {history[:many] for history in told for many in range(len(history) + 1)} | {()}
    calls = plain.calls(house)
    starts = sorted(starts, key=lambda start: (len(start), [calls.index(call) for call, _ in start]))
    words = [tuple(call for call, _ in start) for start in starts]
    names = samples.free(len(starts) + 1)
    rows = []
    for start, word, place in zip(starts, words, names):
        for call in calls:
            longer = [other for other in starts if other[:-1] == start and other and other[-1][0] == call]
            if longer:
                lets = ((longer[0][-1][1], names[starts.index(longer[0])]),)
            else:
                lets = tuple((answer, names[-1]) for answer in plain.answers_of(house, call))
            rows.append((place, call, lets))
    return ("clause", name, tuple(names), tuple(rows))


class Tellings(unittest.TestCase):
    def drawn(self, seed):
        """Some histories of one program, which agree."""
        draw = random.Random(seed)
        house = (ONE, TWO, TURNED, STORE, WIDE)[seed % 5]
        program = samples.drawn_program(seed, house, 1 + seed % 6)
        words = [tuple(draw.choice(plain.calls(house)) for _ in range(draw.randrange(5))) for _ in range(seed % 6)]
        return house, [plain.told_history(program, word) for word in words]

    def test_all(self):
        for seed in range(150):
            house, told = self.drawn(seed)
            clause = told_clause(house, told, "k")
            self.assertEqual(clause, clause_by_words(house, told, "k"))
            self.assertTrue(plain.clause_form(house, clause))
            self.assertEqual(told_clause(house, tuple(told), "k"), clause)
            self.assertEqual(told_clause(house, told[::-1] + told, "k"), clause)
            if house in NORMALS:
                for program in NORMALS[house][seed % 7::7]:
                    self.assertEqual(plain.right(document_of_clauses(house, clause), program), has_all(program, told))

    def test_by_hand(self):
        self.assertEqual(told_clause(ONE, [(("c", "x"), ("c", "y"))], "told"), ("clause", "told", ("a", "b", "c", "d"), (
            ("a", "c", (("x", "b"),)), ("b", "c", (("y", "c"),)), ("c", "c", (("x", "d"), ("y", "d"))))))
        for told in ([], [()], ()):
            self.assertEqual(told_clause(ONE, told, "k"), ("clause", "k", ("a", "b"), (("a", "c", (("x", "b"), ("y", "b"))),)))
        # Words of one length are compared call by call, in the order of the house.
        clause = told_clause(TURNED, [(("c", "y"),), (("d", "x"), ("c", "x"))], "k")
        self.assertEqual(clause[3][:2], (("a", "d", (("x", "b"),)), ("a", "c", (("y", "c"),))))

    def test_learners_guess(self):
        # fewest of the document with what was told tells just the guess.
        count = 0
        for document in SOUND[::3]:
            for program in NORMALS[document[1]][::17]:
                if not plain.right(document, program):
                    continue
                learner = Learner(document)
                while learner.wants()[0] == "word":
                    learner.answer(plain.trace(program, learner.wants()[1])[0])
                guess = learner.wants()[1]
                clause = told_clause(document[1], learner.told(), "told")
                both = document_of_clauses(document[1], *document[2], clause)
                self.assertEqual(fewest(both, len(guess[2]))[:2], ("program", guess))
                count += 1
        self.assertGreater(count, 30)

    def test_many_places(self):
        told = [tuple(("c", "x") for _ in range(38))]
        self.assertEqual(len(told_clause(ONE, told, "k")[2]), 40)
        for histories in ([told[0] + (("c", "y"),)], [told[0], told[0] + (("c", "x"),)], [(("c", "x"),) * 200]):
            with self.assertRaises(TooMany):
                told_clause(ONE, histories, "k")
            with self.assertRaises(BadName):
                told_clause(ONE, histories, "K")

    def test_errors(self):
        for thing in ODD:
            if not plain.house_form(thing):
                with self.assertRaises(BadHouse):
                    told_clause(thing, None, None)
            if not plain.name_form(thing):
                with self.assertRaises(BadName):
                    told_clause(ONE, [], thing)
            if not isinstance(thing, (list, tuple)):
                with self.assertRaises(BadHistories) as caught:
                    told_clause(ONE, thing, None)
                self.assertIsNone(caught.exception.at)
            elif thing != () or isinstance(thing, list):
                with self.assertRaises(BadHistories) as caught:
                    told_clause(ONE, [(), thing], None)
                self.assertEqual(caught.exception.at, 1)
        x, y = (("c", "x"),), (("c", "y"),)
        for histories, at in (([x, x + y, y], 2), ([x, None, y], 1), ([x + y, x + x], 1), ([(), x, y, None], 2),
                              ([None, None], 0), ([list(x)], 0), ([x, (("d", "x"),)], 1), ([[]], 0)):
            with self.assertRaises(BadHistories) as caught:
                told_clause(ONE, histories, None)
            self.assertEqual(caught.exception.at, at)
        self.assertEqual(told_clause(name="k", histories=[], house=TWO)[1], "k")
        self.assertEqual(len(told_clause(TWO, [x, (("d", "y"),)], "k")[2]), 4)
        self.assertTrue(plain.sound(ONCE_DOC))


if __name__ == "__main__":
    unittest.main()
