"""futures [25]."""

import unittest
from itertools import product

from saidandasked.errors import BadCount, BadDocument, BadFuture, BadNumber, BadProgram
from saidandasked.futures import future, future_of, futures, number_of
from saidandasked.makers import kept
from tests import plain, samples
from tests.samples import FREE_DOC, MADE, ODD, ONE, QUARREL_DOC, STORE_DOC, bent

SOUND = [document for document in samples.small_documents()[::6] + samples.drawn_documents(60) if plain.sound(document)]


def all_futures(document, stand, k, known):
    """All futures of k calls from a safe stand, in order, by the words of [25]."""
    if k == 0:
        return [()]
    choices = []
    for call in plain.calls(document[1]):
        found = []
        for answer in plain.answers_of(document[1], call):
            there = plain.stand_after(document, stand, call, answer)
            if () not in there and known[there] is None:
                found += [(answer, later) for later in all_futures(document, there, k - 1, known)]
        choices.append(found)
    return list(product(*choices))


def how_many(document, stand, k, known):
    """As all_futures, counted."""
    if k == 0:
        return 1
    whole = 1
    for call in plain.calls(document[1]):
        there = [plain.stand_after(document, stand, call, a) for a in plain.answers_of(document[1], call)]
        whole *= sum(how_many(document, s, k - 1, known) for s in there if () not in s and known[s] is None)
    return whole


def histories_in(house, told):
    """The longest histories that a future tells."""
    if not told:
        return [()]
    return [((call, pair[0]),) + later for call, pair in zip(plain.calls(house), told)
            for later in histories_in(house, pair[1])]


class Futures(unittest.TestCase):
    def test_by_hand(self):
        self.assertEqual([futures(STORE_DOC, k) for k in range(4)], [1, 1, 2, 32])
        self.assertEqual(future(STORE_DOC, 0, 0), ())
        self.assertEqual(future(STORE_DOC, 1, 0), (("ok", ()), ("none", ())))
        empty, some = (("ok", ()), ("none", ())), (("ok", ()), ("ok", ()))
        full = (("full", ()), ("ok", ()))
        self.assertEqual(future(STORE_DOC, 2, 0), (("ok", some), ("none", empty)))
        self.assertEqual(future(STORE_DOC, 2, 1), (("ok", full), ("none", empty)))
        self.assertEqual(number_of(STORE_DOC, 2, (("ok", full), ("none", empty))), 1)
        self.assertEqual(future_of(MADE, 2), (("ok", some), ("none", empty)))

    def test_all_numbers(self):
        for document in SOUND:
            known = plain.ranks(document)
            first = plain.first_stand(document)
            for k in range(5):
                many = how_many(document, first, k, known)
                if many > 300:
                    self.assertEqual(futures(document, k), many)
                    break
                told = all_futures(document, first, k, known)
                self.assertEqual(futures(document, k), len(told))
                for number, one in enumerate(told):
                    self.assertEqual(future(document, k, number), one)
                    self.assertEqual(number_of(document, k, one), number)
                with self.assertRaises(BadNumber):
                    future(document, k, len(told))

    def test_futures_are_those_of_right_programs(self):
        for document in SOUND[::3]:
            for k in range(3):
                if futures(document, k) > 60:
                    break
                for number in range(futures(document, k)):
                    told = future(document, k, number)
                    kind, program = kept(document, histories_in(document[1], told))
                    self.assertEqual(kind, "program")
                    self.assertTrue(plain.right(document, program))
                    self.assertEqual(future_of(program, k), told)
        for document in samples.small_documents()[::9]:
            for program in plain.programs(ONE, 2):
                if plain.right(document, program):
                    for k in range(4):
                        number = number_of(document, k, future_of(program, k))
                        self.assertEqual(future(document, k, number), future_of(program, k))
                elif plain.sound(document):
                    with self.assertRaises(BadFuture):
                        number_of(document, 6, future_of(program, 6))

    def test_unsound(self):
        for document in (QUARREL_DOC, samples.rank_chain(20)):
            for k in (0, 1, 5, 20):
                self.assertEqual(futures(document, k), 0)
                with self.assertRaises(BadNumber):
                    future(document, k, 0)
                for told in ((), (("x", ()),)):
                    with self.assertRaises(BadFuture):
                        number_of(document, k, told)

    def test_great_numbers(self):
        wide = ("house", tuple(("call", name, ("x", "y", "z", "u", "v")) for name in "abdef"))
        document = ("document", wide, ())
        self.assertEqual(futures(document, 4), 5 ** 780)
        for number in (0, 1, 5 ** 780 - 1, 3 ** 1000, 2 * 5 ** 779 + 12345):
            told = future(document, 4, number)
            self.assertEqual(number_of(document, 4, told), number)
        for number in (5 ** 780, -1):
            with self.assertRaises(BadNumber):
                future(document, 4, number)
        last = future(document, 1, 5 ** 5 - 1)
        self.assertEqual(last, (("v", ()),) * 5)
        self.assertEqual(future(document, 1, 5 ** 4), (("y", ()),) + (("x", ()),) * 4)
        self.assertEqual(future(document, 1, 1), (("x", ()),) * 4 + (("y", ()),))

    def test_twenty_calls(self):
        document = ("document", ONE, ())
        self.assertEqual(futures(document, 20), 2 ** 20)
        for number in (0, 1, 2 ** 19, 987654, 2 ** 20 - 1):
            self.assertEqual(number_of(document, 20, future(document, 20, number)), number)
        told = future_of(samples.ring(ONE, 400, (19,)), 20)
        self.assertEqual(number_of(document, 20, told), 1)
        self.assertEqual(futures(samples.plus_chain(15), 20), 1)

    def test_numbers_stay_small(self):
        # Nothing is counted that does not come: not where all breaks, and not behind what k calls reach.
        wide = ("house", tuple(("call", name, ("x", "y", "z")) for name in "abdef"))
        rows = (("p", "a", ()), ("p", "b", (("x", "q"),)))
        document = ("document", wide, (("clause", "k", ("p", "q"), rows),))
        self.assertEqual(futures(document, 20), 0)
        rows = tuple(("p", call, (("x", "p"),)) for call in "abdef")
        forced = ("document", wide, (("clause", "k", ("p", "q"), rows),))
        self.assertEqual(futures(forced, 20), 1)
        chain = [("p", call, (("x", "p"),)) for call in "abde"] + [("p", "f", (("x", "q"),))]
        chain += [(place, call, (("y", to),)) for place, to in (("q", "r"), ("r", "s")) for call in "abdef"]
        late = ("document", wide, (("clause", "k", ("p", "q", "r", "s"), tuple(chain)),))
        self.assertEqual([futures(late, k) for k in range(5)], [1, 1, 1, 1, 3 ** 125])

    def test_no_futures(self):
        for k in (0, 1, 2, 3):
            wrong = ODD + [(("ok", ()), ("none", ())), (("ok", ()),), (("x",),)]
            if k > 0:
                wrong += list(bent(future(STORE_DOC, k, 0)))
            good = {future(STORE_DOC, k, number) for number in range(futures(STORE_DOC, k))}
            for thing in wrong:
                if isinstance(thing, tuple) and plain_in(thing, good):
                    self.assertEqual(future(STORE_DOC, k, number_of(STORE_DOC, k, thing)), thing)
                else:
                    with self.assertRaises(BadFuture):
                        number_of(STORE_DOC, k, thing)

    def test_future_of(self):
        for seed in range(10):
            program = samples.drawn_program(seed, samples.WIDE, 1 + seed % 4)
            for k in range(4):
                told = future_of(program, k)
                self.assertEqual(told, self.walked(program, 0, k))
        self.assertEqual(future_of(MADE, 0), ())

    def walked(self, program, state, k):
        return () if k == 0 else tuple((a, self.walked(program, to, k - 1)) for a, to in program[2][state])


def plain_in(thing, good):
    """Whether a value equals a good one; what cannot be looked up does not."""
    try:
        return thing in good
    except TypeError:
        return False


class Errors(unittest.TestCase):
    def test_errors(self):
        for thing in ODD:
            for k in (1, None):
                with self.assertRaises(BadDocument):
                    futures(thing, k)
                with self.assertRaises(BadDocument):
                    future(thing, k, None)
                with self.assertRaises(BadDocument):
                    number_of(thing, k, None)
                with self.assertRaises(BadProgram):
                    future_of(thing, k)
        for k in [thing for thing in ODD if type(thing) is not int] + [-1, -20, "1"]:
            for asked, rest in ((futures, ()), (future, (None,)), (number_of, (None,))):
                with self.assertRaises(BadCount):
                    asked(STORE_DOC, k, *rest)
            with self.assertRaises(BadCount):
                future_of(MADE, k)
            with self.assertRaises(BadCount):
                futures(QUARREL_DOC, k)
        for number in [thing for thing in ODD if type(thing) is not int] + [-1, 2, 32, 10 ** 9, (0,)]:
            with self.assertRaises(BadNumber):
                future(STORE_DOC, 2, number)

    def test_by_name(self):
        self.assertEqual(futures(k=3, document=STORE_DOC), 32)
        self.assertEqual(future(number=0, k=0, document=FREE_DOC), ())
        self.assertEqual(number_of(told=(), k=0, document=FREE_DOC), 0)
        self.assertEqual(future_of(k=0, program=MADE), ())


if __name__ == "__main__":
    unittest.main()
