"""alike: other names [18]."""

import itertools
import random
import unittest

from saidandasked.alike import is_like, renamed
from saidandasked.covers import cover
from saidandasked.errors import BadNames, BadThing
from saidandasked.makers import made
from saidandasked.ranks import is_sound, safe
from saidandasked.stands import stands
from saidandasked.texts import text_of
from saidandasked.verdicts import law_verdict
from saidandasked.words import is_name
from tests import samples
from tests.samples import FREE_DOC, MADE, ODD, ONE, STORE, STORE_CLAUSE, STORE_DOC, TAKES, TURNED, TWO
from tests.test_reading import THINGS

SWAP = {"put": "take", "take": "put", "ok": "none", "none": "ok", "store": "some", "some": "store"}


def names_in(thing):
    """All names in a thing, as they come."""
    if isinstance(thing, tuple):
        return list(dict.fromkeys(name for part in thing for name in names_in(part)))
    return [thing] if isinstance(thing, str) and is_name(thing) else []


def put(thing, names):
    """The thing with other names, by a plain walk."""
    if isinstance(thing, tuple):
        return tuple(put(part, names) for part in thing)
    return names.get(thing, thing) if isinstance(thing, str) else thing


class Renamed(unittest.TestCase):
    def test_all(self):
        draw = random.Random(4)
        for thing in THINGS:
            told = names_in(thing)
            new = draw.sample(told + [f"new{letter}" for letter in "abcdefghijklmnopqrstuvwxyz"], len(told))
            names = dict(zip(told, new))
            before = dict(names)
            other = renamed(thing, names)
            self.assertEqual(other, put(thing, names))
            self.assertEqual(names, before)
            text_of(other)
            self.assertTrue(is_like(thing, other) and is_like(other, thing))
            self.assertEqual(renamed(other, {new: old for old, new in names.items()}), thing)
            self.assertEqual(renamed(thing, {}), thing)
            self.assertEqual(renamed(thing, {"unknown": "zzzz"}), thing)

    def test_by_hand(self):
        self.assertEqual(renamed(ONE, {"c": "x", "x": "c"}), ("house", (("call", "x", ("c", "y")),)))
        self.assertEqual(renamed(TWO, {"c": "d", "d": "c"}), TURNED)
        self.assertEqual(renamed(TAKES, {"put": "q"})[3][0], ("ask", 0, "q", (1, 1)))
        self.assertEqual(renamed(STORE_DOC, SWAP)[2][0][:3], ("clause", "some", ("empty", "store")))
        self.assertEqual(renamed(ONE, {"y": "abcdefgh"})[1][0][2], ("x", "abcdefgh"))
        # A name may become one of a thing that it is taken from.
        self.assertEqual(renamed(ONE, {"c": "x", "x": "y", "y": "c"}), ("house", (("call", "x", ("y", "c")),)))
        self.assertEqual(renamed(ONE, {"x": "x"}), ONE)

    def test_wrong_names(self):
        for names in ODD + [{"x": "y"}, {"c": "x"}, {"x": "z", "y": "z"}, {"q": "z", "y": "z"}, {"x": "law"},
                            {"x": "abcdefghi"}, {"x": ""}, {"x": "A"}, {"law": "z"}, {"": "z"}, {"X": "z"}, {1: "z"},
                            {"x": 1}, {None: None}, {("x",): "z"}, [("x", "z")], (("x", "z"),), {"x": ["z"]},
                            {"house": "home"}, {"q": "x", "x": "y"}, {"x": "z1"}, {"x": True}]:
            if names != {}:
                with self.assertRaises(BadNames, msg=names):
                    renamed(ONE, names)
        # No name of the thing becomes one, though a name that it does not have is put there.
        self.assertEqual(renamed(ONE, {"q": "x"}), ONE)

    def test_wrong_things(self):
        for thing in ODD + [STORE_CLAUSE, ("meaning", ONE, ()), (("c", "x"),)]:
            if thing not in (ONE, STORE_DOC):
                for names in ({}, None):
                    with self.assertRaises(BadThing):
                        renamed(thing, names)
                for other in (ONE, None):
                    with self.assertRaises(BadThing):
                        is_like(thing, other)
                with self.assertRaises(BadThing):
                    is_like(ONE, thing)
        with self.assertRaises(BadThing):
            renamed(samples.ring(ONE, 401, ()), {})
        self.assertEqual(renamed(names={"x": "z"}, thing=ONE), put(ONE, {"x": "z"}))


class Like(unittest.TestCase):
    def test_by_hand(self):
        self.assertTrue(is_like(TWO, TURNED))
        self.assertTrue(is_like(TAKES, put(TAKES, SWAP)))
        self.assertFalse(is_like(TWO, ONE))
        self.assertFalse(is_like(STORE, STORE_DOC))
        self.assertFalse(is_like(TAKES, samples.COPIES))
        # One to one: what has one name twice is not like what has two names.
        one = ("house", (("call", "a", ("a", "b")),))
        self.assertTrue(is_like(one, ("house", (("call", "q", ("q", "z")),))))
        for other in (("house", (("call", "q", ("r", "z")),)), ("house", (("call", "q", ("z", "q")),))):
            self.assertFalse(is_like(one, other))
            self.assertFalse(is_like(other, one))
        self.assertTrue(is_like(one=ONE, other=ONE))

    def test_all(self):
        small = [thing for thing in THINGS if len(names_in(thing)) <= 5]
        self.assertGreater(len(small), 8)
        for one, other in itertools.product(small, repeat=2):
            told = names_in(one)
            ways = [dict(zip(told, new)) for new in itertools.permutations(names_in(other))]
            like = len(told) == len(names_in(other)) and any(put(one, names) == other for names in ways)
            self.assertIs(is_like(one, other), like)

    def test_numbers_and_words_are_not_names(self):
        for thing in (MADE, TAKES, samples.COPIES):
            for other in samples.bent(thing):
                try:
                    told = is_like(thing, other)
                except BadThing:
                    continue
                self.assertEqual(told, is_like(other, thing))
        false = TAKES[:3] + (TAKES[3][:2] + (("false",), ("true",)),)
        self.assertFalse(is_like(TAKES, false))


class NamesMeanNothing(unittest.TestCase):
    def test_renamed_things(self):
        for seed in range(60):
            document = samples.drawn_document(seed)
            rule = samples.drawn_law(seed, document[1], 1 + seed % 2, 5)
            told = names_in((document, rule))
            names = {name: new for name, new in zip(told, reversed(samples.free(30)[:len(told)]))}
            other, other_rule = put(document, names), put(rule, names)
            self.assertEqual(stands(other), put(stands(document), names))
            self.assertEqual(safe(other), put(safe(document), names))
            self.assertEqual(law_verdict(other, other_rule), put(law_verdict(document, rule), names))
            self.assertEqual(cover(other, (other, other)), put(cover(document, (document, document)), names))
            if is_sound(document):
                self.assertEqual(made(other), put(made(document), names))
        self.assertTrue(is_like(FREE_DOC, ("document", TURNED, ())))


if __name__ == "__main__":
    unittest.main()
