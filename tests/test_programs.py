"""programs: answers, history, state_behind [30]."""

import unittest

from saidandasked.errors import BadProgram, BadWord
from saidandasked.programs import answers, history, state_behind
from tests import plain, samples
from tests.samples import MADE, ONE, STORE, TWO


class Answers(unittest.TestCase):
    def test_by_hand(self):
        word = ("take", "put", "take", "put", "take")
        self.assertEqual(answers(MADE, word), ("none", "ok", "ok", "ok", "ok"))
        self.assertEqual(history(MADE, word), tuple(zip(word, ("none", "ok", "ok", "ok", "ok"))))
        self.assertEqual(state_behind(MADE, word), 1)
        self.assertEqual((answers(MADE, ()), history(MADE, ()), state_behind(MADE, ())), ((), (), 0))

    def test_all_words(self):
        for seed in range(12):
            for house in (ONE, TWO, samples.TURNED, samples.WIDE):
                program = samples.drawn_program(seed, house, 1 + seed % 5)
                for word in plain.words(house, 3):
                    told, states = plain.trace(program, word)
                    self.assertEqual(answers(program, word), told)
                    self.assertEqual(history(program, word), tuple(zip(word, told)))
                    self.assertEqual(state_behind(program, word), states[-1])
                    self.assertIs(type(state_behind(program, word)), int)

    def test_long(self):
        program = samples.ring(TWO, 400, (199,))
        word = ("c", "d") * 100
        self.assertEqual(answers(program, word), ("x",) * 199 + ("y",))
        self.assertEqual(state_behind(program, word), 200)
        self.assertEqual(len(history(program, word)), 200)

    def test_errors(self):
        for asked in (answers, history, state_behind):
            for thing in samples.ODD + [("program", ONE, []), samples.STORE_DOC]:
                with self.assertRaises(BadProgram):
                    asked(thing, ("put",))
                with self.assertRaises(BadProgram):
                    asked(thing, None)
            for thing in samples.ODD + [["put"], ("c",), ("put", "ok"), "put", ("put", None), ("put", ["take"])]:
                if thing != ():
                    with self.assertRaises(BadWord):
                        asked(MADE, thing)

    def test_by_name(self):
        self.assertEqual(answers(word=("put",), program=MADE), ("ok",))
        self.assertEqual(history(word=("put",), program=MADE), (("put", "ok"),))
        self.assertEqual(state_behind(word=("put",), program=MADE), 1)
        self.assertEqual(plain.calls(STORE), ["put", "take"])


if __name__ == "__main__":
    unittest.main()
