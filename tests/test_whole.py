"""The whole: all roads tell the same [180], names mean nothing [18], what is returned is new [3], the limits of [4]."""

import random
import unittest

from saidandasked.alike import is_like, renamed
from saidandasked.atop import atop
from saidandasked.barring import law_clause
from saidandasked.bits import pack, unpack
from saidandasked.builders import built
from saidandasked.carrying import carried
from saidandasked.chains import true_from
from saidandasked.decided import decided
from saidandasked.gaps import gap
from saidandasked.images import image
from saidandasked.lawmaking import law_of
from saidandasked.learners import Learner, learn
from saidandasked.makers import kept, made
from saidandasked.meanings import document_of, meaning
from saidandasked.mending import mended
from saidandasked.narrow import apart, narrowing
from saidandasked.normals import normal
from saidandasked.overs import over
from saidandasked.programs import answers
from saidandasked.promises import missed
from saidandasked.readers import Reader
from saidandasked.rights import verdict
from saidandasked.suites import first_break
from saidandasked.verdicts import is_law_verdict, law_verdict
from saidandasked.weakest import weakest
from tests import plain, samples
from tests.samples import ONE, STORE, STORE_DOC, TWO, ring
from tests.test_atop import drawn_clauses, has
from tests.test_conventions import TABLE, function
from tests.test_covers import document_of_clauses, strict
from tests.test_decided import documents
from tests.test_promises import ALIKE, THRICE_LAW, TWICE_LAW
from tests.test_promises import cases as promise_cases

SMALL = samples.small_documents()
SOUND = [document for document in list(documents(50)) + SMALL[::29] if plain.sound(document)]


def hands_on(house, names):
    """An outer thing that hands everything on, of calls with these names and the same answers."""
    outside = ("house", tuple(("call", name, call[2]) for name, call in zip(names, house[1])))
    many = len(house[1])
    answers_told = [(at, answer) for at, call in enumerate(house[1]) for answer in call[2]]
    nodes = [("wait", tuple(range(1, many + 1)))]
    for at, call in enumerate(house[1]):
        nodes.append(("inner", call[1], tuple(many + 1 + answers_told.index((at, answer)) for answer in call[2])))
    nodes += [("answer", answer, 0) for _, answer in answers_told]
    return ("outer", outside, house, tuple(nodes))


class Roads(unittest.TestCase):
    def test_answers_that_keep_a_program_right(self):
        for document in SOUND:
            house = document[1]
            said = meaning(document)
            normal_document = document_of(said, "said")
            outer = hands_on(house, ("e", "f"))
            rename = dict(zip(plain.calls(house), ("e", "f")))
            wanted = ("document", ("house", outer[1][1] + house[1]), tuple(
                clause[:3] + (tuple((place, rename[call], lets) for place, call, lets in clause[3]),)
                for clause in document[2]))
            inside = weakest(outer, wanted)
            self.assertEqual(inside, said)
            self.assertEqual(image(outer, document)[2], said[2])
            for history in plain.histories(house, 3 if house == ONE else 2):
                for call in plain.calls(house):
                    held = plain.held_answers(document, history, call) if plain.held(document, history) else []
                    self.assertEqual(plain.held_answers(normal_document, history, call) if held else [], held)
                    for answer in plain.answers_of(house, call):
                        longer = history + ((call, answer),)
                        self.assertEqual(kept(document, [longer])[0] == "program", answer in held)
                        self.assertEqual(has(inside, longer), answer in held)

    def test_laws(self):
        count = 0
        for number, document in enumerate(SOUND):
            programs = list(plain.programs(document[1], 2))[number % 9::9]
            for at in range(5):
                rule = samples.drawn_law(number * 5 + at, document[1], 1, 2 + at)
                clause = law_clause(rule, "rule")
                joined = document_of_clauses(document[1], *document[2], clause)
                for program in programs:
                    lets = verdict(document, program)[0] == "right" and over(program, rule)[0] != "falls"
                    self.assertEqual(verdict(joined, program)[0] == "right", lets)
                told = law_verdict(document, rule)
                first = plain.first_stand(document)
                self.assertEqual(told[0] == "true", first in true_from(document, rule))
                more = document_of_clauses(document[1], *document[2], ("clause", "more") + strict(number, document[1])[2][0][2:])
                if told[0] == "true" and plain.sound(more):
                    count += 1
                    self.assertIsNone(apart(more, document))
                    table = carried(document, more, rule, narrowing(more, document), told[1])
                    self.assertTrue(is_law_verdict(more, rule, ("true", table)))
        self.assertGreater(count, 20)

    def test_wrong_programs(self):
        count = within = 0
        by_hand = [(ALIKE, 0, laws) for laws in ([TWICE_LAW], [THRICE_LAW])]
        for document, at, laws in list(promise_cases(160)) + by_hand:
            told = missed(document, at, laws)
            if told is None:
                continue
            count += 1
            program, word = told
            clause = document[2][at]
            self.assertEqual(over(program, law_of(document[1], clause))[0], "falls")
            self.assertTrue(all(over(program, rule)[0] != "falls" for rule in laws))
            single = document_of_clauses(document[1], clause)
            found = decided(single)
            if found[0] == "within" and found[1] and len(plain.calls(document[1])) ** found[1] <= 40:
                within += 1
                suite = tuple(word for word in plain.words(document[1], found[1]) if len(word) == found[1])
                self.assertIsNone(gap(single, suite))
                self.assertIsNotNone(first_break(single, suite, program))
            if plain.sound(document):
                self.check_found_again(document, program)
        self.assertGreater(count, 20)
        self.assertGreater(within, 1)

    def check_found_again(self, document, program):
        """Mended, a program is right, found again by asking, and packed and read it is the same."""
        found = mended(document, program)
        self.assertEqual(verdict(document, found)[0], "right")
        self.assertEqual(learn(document, found)[0], found)
        bits = pack(document, found)
        self.assertEqual(unpack(document, bits), found)
        reader = Reader(document)
        for bit in bits:
            reader.feed(bit)
        self.assertEqual(reader.program(), found)

    def test_found_again(self):
        for number, document in enumerate(SOUND):
            for program in list(plain.programs(document[1], 2))[number % 40::40]:
                self.check_found_again(document, program)

    def test_what_is_built(self):
        count = 0
        inside = ("house", (("call", "q", ("x", "y")), ("call", "r", ("x", "z"))))
        outside = ("house", (("call", "c", ("no", "yes")),))
        joint = ("house", outside[1] + inside[1])
        for seed in range(90):
            inner = ("document", inside, drawn_clauses(seed, inside, "k"))
            clauses = drawn_clauses(seed * 3 + 1, outside) + (("clause", "asks", ("o", "p"), (
                ("o", "c", ()), ("o", "q", (("x", "p"), ("y", "p"))), ("p", "c", (("no", "o"), ("yes", "o"))))),)
            wanted = ("document", joint, clauses)
            if not plain.sound(inner):
                continue
            told = built(inner, wanted)
            if told[0] == "barred":
                continue
            count += 1
            drawn = samples.drawn_program(seed, inside, 3)
            programs = [made(inner), mended(inner, drawn), learn(inner, mended(inner, drawn))[0],
                        unpack(inner, pack(inner, made(inner)))]
            asked = ("document", outside, clauses[:-1])
            for program in programs:
                self.assertEqual(verdict(asked, atop(told[1], program))[0], "right")
        self.assertGreater(count, 20)

    def test_store(self):
        said = document_of(meaning(STORE_DOC), "said")
        self.assertEqual(meaning(said), meaning(STORE_DOC))
        self.check_found_again(STORE_DOC, samples.drawn_program(1, STORE, 9))
        self.check_found_again(STORE_DOC, ring(STORE, 4, (1, 2)))


# Names of the things that are tested with, and others whose letters stand in another sequence.
OTHERS = {"put": "zz", "take": "y", "ok": "xx", "full": "w", "store": "v", "empty": "u", "some": "t", "more": "s",
          "c": "r", "x": "q", "y": "p", "go": "o", "win": "n", "on": "m", "back": "l", "yes": "k", "no": "j", "none": "i",
          "p": "h", "k": "g"}


def with_others(value, names):
    """The value, of any kind, with other names."""
    if isinstance(value, (list, tuple)):
        return type(value)([with_others(part, names) for part in value])
    if isinstance(value, dict):
        return {with_others(key, names): with_others(value[key], names) for key in value}
    return names.get(value, value) if isinstance(value, str) else value


# Functions that tell free names, and those that are about names and texts themselves.
FREE = ("meanings.document_of", "makers.clause_of", "meets.either", "meets.mixing", "barring.normal_clause",
        "barring.law_clause", "tellings.told_clause")
AHEAD = ("words", "houses", "clauses", "programs", "lawforms", "outers", "reading", "texts", "ends", "alike")


class Names(unittest.TestCase):
    def test_each_function(self):
        count = 0
        for name, told in TABLE.items():
            if name in FREE or name.split(".")[0] in AHEAD:
                continue
            values = [value for _, value, _ in told]
            result = function(name)(*values)
            # None of these names is a word of what is told.
            self.assertEqual(function(name)(*with_others(values, OTHERS)), with_others(result, OTHERS), name)
            count += 1
        self.assertGreater(count, 100)

    def test_free_names(self):
        for name in FREE:
            if name == "meets.mixing":
                continue
            values = [value for _, value, _ in TABLE[name]]
            self.assertTrue(is_like(self.thing(function(name)(*values), values),
                                    self.thing(function(name)(*with_others(values, OTHERS)), with_others(values, OTHERS))), name)

    def thing(self, told, values):
        """A clause stands in a document of its house."""
        if told[0] != "clause":
            return told
        house = values[0] if values[0][0] == "house" else values[0][1]
        return ("document", house, (told,))

    def test_drawn_documents(self):
        tested = [name for name, told in TABLE.items() if [word for word, _, _ in told] == ["document"]]
        self.assertGreater(len(tested), 15)
        for seed in range(40):
            document = samples.drawn_document(seed)
            if seed % 2:
                document = document_of_clauses(TWO, *strict(seed, TWO, 2, 2)[2])
            names = sorted({part for part in self.strings(document) if plain.name_form(part)})
            others = samples.free(len(names) + 60)[60:]
            random.Random(seed).shuffle(others)
            chosen = dict(zip(names, others))
            # Words of what is told must not be taken for names.
            other = renamed(document, chosen)
            for name in tested:
                one, two = self.outcome(name, document), self.outcome(name, other)
                self.assertEqual(with_others(one, chosen), two, name)

    def strings(self, value):
        if isinstance(value, tuple):
            for part in value:
                yield from self.strings(part)
        elif isinstance(value, str):
            yield value

    def outcome(self, name, document):
        try:
            return function(name)(document)
        except ValueError as error:
            return type(error).__name__

    def test_learners_and_readers(self):
        names = {"put": "zz", "take": "y", "ok": "xx", "full": "w", "store": "v", "empty": "u", "some": "t", "none": "i"}
        program = made(STORE_DOC)
        one, two = Learner(STORE_DOC), Learner(renamed(STORE_DOC, names))
        while one.wants()[0] == "word":
            self.assertEqual(two.wants(), with_others(one.wants(), names))
            told = answers(program, one.wants()[1])
            one.answer(told)
            two.answer(with_others(told, names))
        self.assertEqual(two.wants(), with_others(one.wants(), names))
        self.assertEqual(pack(renamed(STORE_DOC, names), renamed(program, names)), pack(STORE_DOC, program))


class Conventions(unittest.TestCase):
    def lists_within(self, value):
        if isinstance(value, (list, dict)):
            yield value
        if isinstance(value, (list, tuple)):
            for part in value:
                yield from self.lists_within(part)

    def test_new_lists(self):
        count = 0
        for name, told in TABLE.items():
            values = [value for _, value, _ in told]
            result = function(name)(*values)
            found = list(self.lists_within(result))
            before = repr(result)
            passed = [id(part) for part in self.lists_within(values)]
            for part in found:
                count += 1
                self.assertNotIn(id(part), passed)
                part.clear()
            self.assertEqual(repr(function(name)(*values)), before, name)
        self.assertGreater(count, 6)

    def test_equal_values_equal_results(self):
        # Nothing that was asked in between matters.
        first = {name: repr(function(name)(*[value for _, value, _ in told])) for name, told in TABLE.items()}
        for name, told in reversed(list(TABLE.items())):
            self.assertEqual(repr(function(name)(*[value for _, value, _ in told])), first[name], name)

    def test_limits(self):
        # As many clauses, stands and states as there may be.
        places = tuple(samples.free(25))
        rows = tuple((place, "c", (("x", places[(at + 1) % 25]), ("y", place))) for at, place in enumerate(places))
        turns = tuple((place, "c", (("x", place), ("y", places[(at + 1) % 8]))) for at, place in enumerate(places[:8]))
        clauses = [("clause", "k", places, rows), ("clause", "l", places[:8], turns)]
        clauses += [("clause", "m" + letter, ("p",), ()) for letter in "abcdef"]
        document = document_of_clauses(ONE, *clauses)
        self.assertEqual(len(plain.coming(document)), 200)
        program = ring(ONE, 400, (3, 399))
        self.assertEqual(verdict(document, program)[0], "right")
        self.assertEqual(learn(document, program)[0], normal(program))
        self.assertEqual(mended(document, program), normal(program))
        self.assertEqual(unpack(document, pack(document, program)), program)
        self.assertEqual(decided(document), ("within", 0))


if __name__ == "__main__":
    unittest.main()
