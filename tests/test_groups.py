"""groups: stands that one program keeps together [120]."""

import random
import unittest

from saidandasked.errors import BadDocument, BadHistories
from saidandasked.groups import is_together, together
from saidandasked.stands import stands
from tests import plain, samples
from tests.samples import FREE_DOC, ODD, ONE, QUARREL_DOC, STORE_DOC, TWICE_DOC, bent, one_place
from tests.test_covers import document_of_clauses
from tests.test_decided import documents

SMALL = samples.small_documents()
THREE = ("house", (("call", "c", ("x", "y", "z")),))

# One place lets x and y to c, one y and z, one x and z, and nothing more is barred behind them.
RING = document_of_clauses(THREE, ("clause", "k", ("s", "a", "b", "d", "e"), (
    ("s", "c", (("x", "a"), ("y", "b"), ("z", "d"))), ("a", "c", (("x", "e"), ("y", "e"))),
    ("b", "c", (("y", "e"), ("z", "e"))), ("d", "c", (("x", "e"), ("z", "e"))))))


def behind(document, known, group, call, answer):
    """The group behind, None if it is broken; known are the stands that come."""
    found = set()
    for at in group:
        there = plain.stand_after(document, known[at], call, answer)
        if () in there:
            return None
        found.add(known.index(there))
    return tuple(sorted(found))


def is_kept(document, known, first):
    """Whether the group is kept together: groups that come are left out again and again."""
    met = [first]
    for group in met:
        for pair in plain.pairs(document[1]):
            there = behind(document, known, group, *pair)
            if there is not None and there not in met:
                met.append(there)
    good = set(met)
    while True:
        left = {group for group in good if all(
            any(behind(document, known, group, call, answer) in good for answer in plain.answers_of(document[1], call))
            for call in plain.calls(document[1]))}
        if left == good:
            return first in good
        good = left


def group_of(document, histories):
    known = list(plain.coming(document))
    return tuple(sorted({known.index(plain.way(document, history)[-1]) for history in histories}))


def form(document, histories, thing):
    """is_together by its words."""
    known, first = list(plain.coming(document)), group_of(document, histories)
    if not isinstance(thing, tuple) or len(thing) != 2 or not isinstance(thing[0], str) or not isinstance(thing[1], tuple):
        return False
    if thing[0] not in ("kept", "not"):
        return False
    groups = []
    for row in thing[1]:
        if not isinstance(row, tuple) or len(row) != 2 or not isinstance(row[0], tuple) or not row[0]:
            return False
        if not all(plain.number(at) and 0 <= at < len(known) for at in row[0]) or not plain.ascending(list(row[0])):
            return False
        if row[0] in groups:
            return False
        if thing[0] == "not":
            if not isinstance(row[1], str) or row[1] not in plain.calls(document[1]):
                return False
            for answer in plain.answers_of(document[1], row[1]):
                there = behind(document, known, row[0], row[1], answer)
                if there is not None and there not in groups:
                    return False
        elif not isinstance(row[1], tuple) or len(row[1]) != len(document[1][1]) or not all(
                isinstance(answer, str) and answer in call[2] for answer, call in zip(row[1], document[1][1])):
            return False
        groups.append(row[0])
    if thing[0] == "kept":
        for row in thing[1]:
            for call, answer in zip(plain.calls(document[1]), row[1]):
                if behind(document, known, row[0], call, answer) not in groups:
                    return False
    return first in groups


def let_histories(document, most):
    return [history for history in plain.histories(document[1], most) if plain.let(document, history)]


def cases(many):
    for seed, document in enumerate(list(documents(many)) + SMALL[::41] + [samples.drawn_document(at) for at in range(40)]):
        told = let_histories(document, 3 if len(plain.pairs(document[1])) < 5 else 2)
        draw = random.Random(seed)
        for size in (1, 2, 2, 3, 8):
            yield document, [draw.choice(told) for _ in range(size)]


class Groups(unittest.TestCase):
    def check(self, document, histories):
        told = together(document, histories)
        known, group = list(plain.coming(document)), group_of(document, histories)
        self.assertEqual(tuple(known), stands(document))
        good = is_kept(document, known, group)
        self.assertEqual((len(told), told[0]), (2, "kept" if good else "not"))
        self.assertTrue(form(document, histories, told))
        self.assertIs(is_together(document, histories, told), True)
        self.assertEqual(told[1][0 if good else -1][0], group)
        self.assertEqual(together(document, tuple(histories)), told)
        if len(group) == 1:
            self.assertEqual(good, plain.ranks(document)[known[group[0]]] is None)
        return told

    def test_all(self):
        seen = {}
        for document, histories in cases(80):
            told = self.check(document, histories)
            key = (told[0], len(group_of(document, histories)))
            seen[key] = seen.get(key, 0) + 1
            if told[0] == "kept":
                for at in range(len(histories) if len(histories) > 1 else 0):
                    self.assertEqual(together(document, histories[:at] + histories[at + 1:])[0], "kept")
        self.assertTrue({("kept", 1), ("kept", 2), ("kept", 3), ("not", 1), ("not", 2), ("not", 3)} <= set(seen), seen)
        self.assertGreater(sum(many for key, many in seen.items() if key[0] == "not" and key[1] > 1), 15, seen)

    def test_by_hand(self):
        self.assertEqual(self.check(TWICE_DOC, [(), (("c", "x"),)])[1][0], ((0, 1), ("y",)))
        self.assertEqual(self.check(FREE_DOC, [()]), ("kept", (((0,), ("x", "x")),)))
        self.assertEqual(self.check(QUARREL_DOC, [()]), ("not", (((0,), "c"),)))
        told = [(("c", answer),) for answer in "xyz"]
        self.assertEqual(self.check(RING, told), ("not", (((1, 2, 3), "c"),)))
        for at in range(3):
            self.assertEqual(self.check(RING, told[:at] + told[at + 1:])[0], "kept")
        self.assertEqual(self.check(STORE_DOC, [(), (("put", "ok"),)])[0], "not")

    def test_eight(self):
        # Eight stands behind eight histories, of which one alone is not kept with the others.
        places = tuple(samples.free(9))
        rows = [(places[0], "c", tuple((answer, places[1]) for answer in "xy"))]
        rows += [(place, "c", (("x", places[at + 2 if at < 7 else 1]),)) for at, place in enumerate(places[1:])]
        document = document_of_clauses(ONE, ("clause", "k", places, tuple(rows)))
        told = [(("c", "x"),) * many for many in range(1, 9)]
        self.assertEqual(self.check(document, told), ("kept", (((1, 2, 3, 4, 5, 6, 7, 8), ("x",)),)))
        last = places[8], "c", (("y", places[1]),)
        document = document_of_clauses(ONE, ("clause", "k", places, tuple(rows[:-1]) + (last,)))
        told = [(("c", "x"),) * many for many in range(1, 9)]
        self.assertEqual(self.check(document, told)[0], "not")
        self.assertEqual(self.check(document, told[:2])[0], "not")
        self.assertEqual(self.check(document, told[:1])[0], "kept")

    def test_bent(self):
        for number, (document, histories) in enumerate(cases(60)):
            if number % 7:
                continue
            told = together(document, histories)
            things = list(bent(told))
            draw = random.Random(number)
            other = together(document, histories[:1])
            for thing in draw.sample(things, min(90, len(things))) + ODD + [other, (other[0], other[1] + told[1])]:
                self.assertIs(is_together(document, histories, thing), form(document, histories, thing), thing)
            word = plain.calls(document[1])[0] if told[0] == "not" else tuple(call[2][0] for call in document[1][1])
            for row in (((), word), ((0,), word), ((0, 1), word), ([0], word)):
                for rows in (told[1] + (row,), (row,) + told[1]):
                    self.assertIs(is_together(document, histories, (told[0], rows)), form(document, histories, (told[0], rows)))
            rows = list(told[1])
            draw.shuffle(rows)
            thing = (told[0], tuple(rows))
            self.assertIs(is_together(document, histories, thing), form(document, histories, thing))

    def test_errors(self):
        broken = (("c", "x"), ("c", "x"))
        for asking, rest in ((together, ()), (is_together, (None,))):
            for thing in ODD:
                if not plain.document_form(thing):
                    with self.assertRaises(BadDocument):
                        asking(thing, None, *rest)
                if thing == ((),) and isinstance(thing, tuple):
                    continue
                with self.assertRaises(BadHistories) as caught:
                    asking(TWICE_DOC, thing, *rest)
                is_list = isinstance(thing, (list, tuple)) and 1 <= len(thing) <= 8
                good = is_list and thing[0] == () and isinstance(thing[0], tuple)
                self.assertEqual(caught.exception.at, None if not is_list else 1 if good else 0, thing)
            for histories, at in (([], None), ([()] * 9, None), ({(): 1}, None), ("", None), ([(), broken], 1),
                                  ([broken, None], 0), ([(), (), None, broken], 2), ([(), (("d", "x"),)], 1), ([[]], 0),
                                  ([(), broken + (("c", "y"),)], 1)):
                with self.assertRaises(BadHistories) as caught:
                    asking(TWICE_DOC, histories, *rest)
                self.assertEqual(caught.exception.at, at)
        self.assertEqual(together(histories=[()] * 8, document=TWICE_DOC)[0], "kept")
        self.assertFalse(is_together(thing=None, histories=[()], document=TWICE_DOC))
        self.assertEqual(together(document_of_clauses(ONE, one_place("k", "c", "y")), [()]), ("kept", (((0,), ("y",)),)))


if __name__ == "__main__":
    unittest.main()
