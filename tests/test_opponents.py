"""opponents: whoever breaks a program, and a program that holds [26]."""

import unittest

from saidandasked.errors import BadDocument, BadProgram, OtherHouse, Sound
from saidandasked.opponents import broken_by, holder
from saidandasked.papers import ranked_list
from saidandasked.programs import history, is_program
from saidandasked.rights import verdict
from tests import plain, samples
from tests.samples import FREE_DOC, MADE, ODD, ONE, QUARREL_DOC, STORE_DOC, TURNED, TWO, rank_chain, ring

DOCUMENTS = samples.small_documents() + samples.drawn_documents(200)
UNSOUND = [document for document in DOCUMENTS if not plain.sound(document)] + [rank_chain(7), rank_chain(40)]


class Opponents(unittest.TestCase):
    def expect(self, document, program):
        """The history by which the ranked list breaks the program."""
        told = dict(ranked_list(document))
        word = ()
        while plain.let(document, plain.told_history(program, word)):
            word += (told[plain.way(document, plain.told_history(program, word))[-1]],)
        return plain.told_history(program, word)

    def test_broken_by(self):
        for at, document in enumerate(UNSOUND):
            rank = plain.ranks(document)[plain.first_stand(document)]
            for many in (1, 2, 3):
                program = samples.drawn_program(at, document[1], many)
                told = broken_by(document, program)
                self.assertEqual(told, self.expect(document, program))
                self.assertEqual(told, history(program, tuple(call for call, _ in told)))
                self.assertFalse(plain.let(document, told))
                self.assertTrue(plain.let(document, told[:-1]))
                self.assertLessEqual(len(told), rank)

    def test_by_hand(self):
        self.assertEqual(broken_by(QUARREL_DOC, ring(ONE, 1, ())), (("c", "x"),))
        self.assertEqual(broken_by(QUARREL_DOC, ring(ONE, 1, (0,))), (("c", "y"),))
        self.assertEqual(broken_by(rank_chain(3), ring(ONE, 2, (1,))), (("c", "x"), ("c", "y"), ("c", "x")))

    def test_holder(self):
        for document in DOCUMENTS + [rank_chain(7), rank_chain(40), FREE_DOC, STORE_DOC]:
            program = holder(document)
            self.assertTrue(is_program(program))
            self.assertEqual(program[1], document[1])
            rank = plain.ranks(document)[plain.first_stand(document)]
            told = verdict(document, program)
            if rank is None:
                self.assertEqual(told[0], "right")
            else:
                # No word of fewer calls than the rank breaks it, and the opponent needs just as many.
                self.assertEqual((told[0], len(told[1])), ("breaks", rank))
                self.assertEqual(len(broken_by(document, program)), rank)

    def test_no_program_holds_longer(self):
        for document in samples.small_documents()[::3]:
            rank = plain.ranks(document)[plain.first_stand(document)]
            if rank is not None:
                for program in plain.programs(ONE, 2):
                    self.assertLessEqual(len(verdict(document, program)[1]), rank)

    def test_sound(self):
        for document in (STORE_DOC,):
            with self.assertRaises(Sound):
                broken_by(document, MADE)
        for document in DOCUMENTS[::5]:
            if plain.sound(document):
                with self.assertRaises(Sound):
                    broken_by(document, ring(document[1], 2, (1,)))

    def test_errors(self):
        for thing in ODD + [MADE]:
            with self.assertRaises(BadDocument):
                broken_by(thing, None)
            with self.assertRaises(BadDocument):
                holder(thing)
        for thing in ODD + [STORE_DOC]:
            for document in (STORE_DOC, QUARREL_DOC):
                with self.assertRaises(BadProgram):
                    broken_by(document, thing)
        for document, program in ((QUARREL_DOC, MADE), (STORE_DOC, ring(ONE, 1, ())), (FREE_DOC, ring(TURNED, 1, ()))):
            with self.assertRaises(OtherHouse):
                broken_by(document, program)
        self.assertEqual(broken_by(program=ring(ONE, 1, ()), document=QUARREL_DOC), (("c", "x"),))
        self.assertEqual(holder(document=FREE_DOC)[1], TWO)


if __name__ == "__main__":
    unittest.main()
