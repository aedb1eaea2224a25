"""A machine that reads the bits of a program one by one."""

from saidandasked.bits import is_bit
from saidandasked.errors import BadBit, BadWord, Ended, NotDone
from saidandasked.foretold import answers_ahead
from saidandasked.houses import is_word
from saidandasked.ranks import sound_graph
from saidandasked.writing import Decoding


class Reader:
    """Reads an orderly program that is right by the document."""

    def __init__(self, document):
        self.decoding = Decoding(sound_graph(document))
        self.house = document[1]

    def feed(self, bit):
        """Read one more bit."""
        if not is_bit(bit):
            raise BadBit("no bit")
        if self.done():
            raise Ended("all is read")
        self.decoding.take(bit)

    def done(self):
        """Whether all is read."""
        return self.decoding.writing.is_done()

    def states(self):
        """How many states have been met."""
        return len(self.decoding.writing.entries)

    def rows(self):
        """The tuple of the rows, from state 0 on, whose entries are all known."""
        return self.decoding.writing.rows()

    def answers(self, word):
        """The pair of the answers to the word that the bits tell so far, and of those that may come next."""
        if not is_word(self.house, word):
            raise BadWord("no word of the house")
        return answers_ahead(self.decoding, word)

    def program(self):
        """The program, when all is read."""
        if not self.done():
            raise NotDone("not all is read")
        return self.decoding.writing.whole()
