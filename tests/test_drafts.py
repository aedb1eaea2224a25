"""drafts: refutations and the fewest states [35]."""

import unittest

from saidandasked.drafts import fewest, is_refutation
from saidandasked.errors import BadDocument, BadMany, BadMost, Unsound
from saidandasked.normals import normal
from tests import plain, samples
from tests.samples import FREE_DOC, ODD, ONE, QUARREL_DOC, STORE, STORE_DOC, TWICE_DOC, TWO, bent, plus_chain


def refutes(document, m, thing, filled=None):
    """is_refutation by its words; filled is a dict from (state, call) to (answer, state)."""
    filled = filled or {}
    house = document[1]
    if plain.tagged(thing, "breaks", 2):
        word = thing[1]
        if not isinstance(word, tuple) or not all(isinstance(c, str) and c in plain.calls(house) for c in word):
            return False
        state, history = 0, ()
        for call in word:
            if (state, call) not in filled:
                return False
            answer, state = filled[(state, call)]
            history += ((call, answer),)
        return not plain.let(document, history)
    if not plain.tagged(thing, "try", 4) or not plain.number(thing[1]) or not isinstance(thing[2], str):
        return False
    named = sorted({0} | {to for _, to in filled.values()})
    key = (thing[1], thing[2])
    if thing[1] not in named or thing[2] not in plain.calls(house) or key in filled:
        return False
    nexts = named + [k for k in range(m) if k not in named][:1]
    choices = [(answer, to) for answer in plain.answers_of(house, thing[2]) for to in nexts]
    if not isinstance(thing[3], tuple) or len(thing[3]) != len(choices):
        return False
    return all(refutes(document, m, tree, {**filled, key: pair}) for pair, tree in zip(choices, thing[3]))


def some_state_short(house, places):
    """Documents that a program tracks: each place gives one answer to some calls and any to the others."""
    import random
    for seed in range(40):
        draw = random.Random(seed)
        names = tuple(samples.free(places))
        rows = []
        for place in names:
            for call in house[1]:
                to = draw.choice(names)
                answers = (draw.choice(call[2]),) if draw.random() < 0.6 else call[2]
                rows.append((place, call[1], tuple((answer, to) for answer in answers)))
        yield ("document", house, (("clause", "k", names, tuple(rows)),))


class Drafts(unittest.TestCase):
    def check(self, document, most, least=None):
        told = fewest(document, most)
        if told[0] == "more":
            self.assertEqual(len(told), 2)
            self.assertTrue(refutes(document, most, told[1]))
            self.assertIs(is_refutation(document, most, told[1]), True)
            if least is not None:
                self.assertGreater(least, most)
            return told
        self.assertEqual((told[0], len(told)), ("program", 3))
        many = len(told[1][2])
        self.assertLessEqual(many, most)
        self.assertEqual(told[1], normal(told[1]))
        self.assertTrue(plain.right(document, told[1]))
        if many == 1:
            self.assertIsNone(told[2])
        else:
            self.assertTrue(refutes(document, many - 1, told[2]))
            self.assertIs(is_refutation(document, many - 1, told[2]), True)
        if least is not None:
            self.assertEqual(many, least)
        return told

    def test_by_hand(self):
        self.assertEqual(fewest(FREE_DOC, 1)[0], "program")
        self.assertIsNone(fewest(FREE_DOC, 6)[2])
        self.assertEqual(len(self.check(STORE_DOC, 6)[1][2]), 2)
        self.assertEqual(self.check(STORE_DOC, 1)[0], "more")
        self.assertEqual(self.check(TWICE_DOC, 3)[1:], (("program", ONE, ((("y", 0),),)), None))

    def test_chains(self):
        for many in range(1, 7):
            for most in range(1, 7):
                told = self.check(plus_chain(many), most, many + 1)
                self.assertEqual(told[0], "program" if many + 1 <= most else "more")
        self.assertEqual(self.check(plus_chain(30), 6)[0], "more")

    def test_small(self):
        programs = {many: [p for p in plain.programs(ONE, many) if len(p[2]) == many] for many in (1, 2, 3)}
        for document in samples.small_documents()[::2]:
            if plain.sound(document):
                least = next((many for many in programs if any(plain.right(document, p) for p in programs[many])), 4)
                for most in (1, 2, 3):
                    self.check(document, most, least)

    def test_two_calls(self):
        programs = list(plain.programs(TWO, 2))
        for document in list(some_state_short(TWO, 3))[::2]:
            least = min([len(p[2]) for p in programs if plain.right(document, p)], default=3)
            told = self.check(document, 2)
            self.assertEqual(told[0] == "more", least == 3)
            if least < 3:
                self.assertEqual(len(told[1][2]), least)

    def test_one_state_more(self):
        for document in list(some_state_short(STORE, 6))[:20]:
            told = self.check(document, 6)
            if told[0] == "program" and len(told[1][2]) > 1:
                self.assertEqual(self.check(document, len(told[1][2]) - 1)[0], "more")
                self.check(document, len(told[1][2]))

    def test_drawn(self):
        for document in samples.drawn_documents(120, 500):
            if plain.sound(document):
                self.check(document, 3)

    def test_a_store_of_five(self):
        # put is ok up to five times, take as often as was put: six states and no fewer.
        names = tuple(samples.free(6))
        rows = []
        for at, place in enumerate(names):
            rows.append((place, "put", (("ok", names[at + 1]),) if at < 5 else (("full", place),)))
            rows.append((place, "take", (("ok", names[at - 1]),) if at else (("none", place),)))
        document = ("document", STORE, (("clause", "k", names, tuple(rows)),))
        self.check(document, 6, 6)
        self.check(document, 5, 6)

    def test_is_refutation(self):
        for document, m in ((STORE_DOC, 1), (plus_chain(1), 1), (plus_chain(2), 2), (QUARREL_DOC, 1)):
            if document == QUARREL_DOC:
                told = ("try", 0, "c", (("breaks", ("c",)), ("breaks", ("c", "c"))))
            else:
                told = fewest(document, m)[1]
            self.assertTrue(refutes(document, m, told))
            self.assertIs(is_refutation(document, m, told), True)
            for thing in bent(told):
                self.assertIs(is_refutation(document, m, thing), refutes(document, m, thing), thing)
            for other in range(1, 7):
                self.assertIs(is_refutation(document, other, told), refutes(document, other, told))
        for thing in ODD + [("breaks", ("put",)), ("try", 0, "put", ()), ("try", 1, "put", ()), ("try", False, "put", ())]:
            self.assertIs(is_refutation(STORE_DOC, 2, thing), False, thing)

    def test_open_refutations(self):
        # Behind the word all its entries must be filled, also behind the break; an entry is tried once.
        good = ("try", 0, "c", (("breaks", ("c",)), ("breaks", ("c", "c", "c"))))
        document = ("document", ONE, (("clause", "k", ("p",), (("p", "c", ()),)),))
        self.assertTrue(is_refutation(document, 1, good))
        again = ("try", 0, "c", (("try", 0, "c", (("breaks", ("c",)),) * 2), ("breaks", ("c",))))
        self.assertFalse(is_refutation(document, 1, again))
        self.assertFalse(is_refutation(document, 2, good))
        two = ("try", 0, "c", (("breaks", ("c",)),) * 4)
        self.assertTrue(is_refutation(document, 2, two))
        self.assertTrue(is_refutation(document, 6, two))
        far = ("try", 0, "c", (("breaks", ("c",)), ("breaks", ("c", "c"))) * 2)
        self.assertFalse(is_refutation(document, 2, far))
        late = ("try", 0, "c", (("breaks", ("c",)), ("try", 1, "c", (("breaks", ("c", "c")),) * 6)) + two[3][:2])
        self.assertTrue(is_refutation(document, 3, late))
        self.assertFalse(is_refutation(document, 2, late))
        self.assertFalse(is_refutation(document, 3, ("breaks", ())))

    def test_errors(self):
        for thing in ODD:
            with self.assertRaises(BadDocument):
                is_refutation(thing, None, None)
            with self.assertRaises(BadDocument):
                fewest(thing, None)
        for thing in [t for t in ODD if not (type(t) is int and 1 <= t <= 6)] + [0, 7, -1, True, "1"]:
            with self.assertRaises(BadMany):
                is_refutation(STORE_DOC, thing, None)
            with self.assertRaises(BadMost):
                fewest(STORE_DOC, thing)
            with self.assertRaises(Unsound):
                fewest(QUARREL_DOC, thing)
            with self.assertRaises(BadMany):
                is_refutation(QUARREL_DOC, thing, None)
        self.assertFalse(is_refutation(thing=None, m=1, document=STORE_DOC))
        self.assertEqual(fewest(most=6, document=STORE_DOC)[0], "program")


if __name__ == "__main__":
    unittest.main()
