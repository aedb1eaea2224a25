"""The fewest words that are enough to test programs with few states, and trees that show that fewer are not."""

from saidandasked.depths import first_word, need_few, whole_sketches
from saidandasked.drafts import breaks
from saidandasked.errors import BadCount, BadLimit, TooShort
from saidandasked.graphs import graph_of
from saidandasked.houses import call_names
from saidandasked.kinds import is_number_between, is_tuple_of
from saidandasked.leads import is_let
from saidandasked.needs import need_document
from saidandasked.programs import history, is_program
from saidandasked.rights import verdict
from saidandasked.sketches import Sketch
from saidandasked.tables import bits_of


def need_calls(document, m, k):
    """What is wanted of a document, a number of states, and a number of calls from 1 to 6."""
    need_document(document)
    need_few(m)
    if not is_number_between(k, 1, 6):
        raise BadLimit("no number from 1 to 6")


def words_of_calls(house, k):
    """The list of the words of k calls, ascending."""
    found = [()]
    for _ in range(k):
        found = [word + (call,) for word in found for call in call_names(house)]
    return found


class Breakers:
    """The programs that have m states and are not right, by the words of k calls on which they break the document.

    Words are told by a number whose bits are their indexes.
    """

    def __init__(self, document, m, k):
        self.graph = graph_of(document)
        self.word_list = words_of_calls(document[1], k)
        # One program for each lot of words.
        self.by_lot = {}
        whole_sketches(Sketch(document[1], m), lambda sketch: self.look(sketch))

    def look(self, sketch):
        """Have a look at a program."""
        if first_word(self.graph, sketch) is not None:
            lot = 0
            for at, word in enumerate(self.word_list):
                if breaks(self.graph, sketch.steps_on(word)):
                    lot |= 1 << at
            if lot not in self.by_lot:
                self.by_lot[lot] = sketch.whole()

    def need_enough_calls(self):
        """TooShort if some program that is not right breaks the document on none of the words."""
        if 0 in self.by_lot:
            raise TooShort(self.by_lot[0])

    def missed_by(self, chosen):
        """The lot with the fewest words of those that have none of the chosen ones, or None."""
        lots = [lot for lot in self.by_lot if not lot & chosen]
        return min(lots, key=lambda lot: (len(bits_of(lot)), lot), default=None)

    def completed(self, chosen, many):
        """The chosen words with so many more, of which each lot has one; None if there are none."""
        lot = self.missed_by(chosen)
        if lot is None:
            return chosen
        if many > 0:
            for at in bits_of(lot):
                found = self.completed(chosen | 1 << at, many - 1)
                if found is not None:
                    return found
        return None

    def fewest(self):
        """The least number of words of which each lot has one, and such words."""
        many = 0
        found = self.completed(0, many)
        while found is None:
            many += 1
            found = self.completed(0, many)
        return many, found

    def miss_tree(self, chosen, many):
        """A tree of misses for so many words behind those that are chosen, which are fewer than are enough."""
        lot = self.missed_by(chosen)
        trees = [self.miss_tree(chosen | 1 << at, many - 1) for at in bits_of(lot)] if many > 0 else []
        return self.by_lot[lot], tuple(trees)


def fewest_words(document, m, k):
    """A suite of words of k calls that suffices for m, with the fewest words."""
    need_calls(document, m, k)
    breakers = Breakers(document, m, k)
    breakers.need_enough_calls()
    _, found = breakers.fewest()
    return tuple(breakers.word_list[at] for at in bits_of(found))


def misses(document, m, k):
    """None if the depth is 0, otherwise a tree of misses for one word less than are enough."""
    need_calls(document, m, k)
    breakers = Breakers(document, m, k)
    breakers.need_enough_calls()
    many, _ = breakers.fewest()
    return None if many == 0 else breakers.miss_tree(0, many - 1)


def is_miss_tree(document, m, k, n, thing):
    """Whether any value is a tree of misses for n words with no word chosen."""
    need_calls(document, m, k)
    if not is_number_between(n, 0, 16):
        raise BadCount("no number from 0 to 16")
    return is_miss(document, m, (words_of_calls(document[1], k), []), n, thing)


def is_miss(document, m, words, n, thing):
    """Whether any value is a tree of misses for n words, words being the pair of all and of the chosen ones."""
    every, chosen = words
    if not is_tuple_of(thing, 2) or not is_program(thing[0]) or thing[0][1] != document[1]:
        return False
    program, trees = thing
    if len(program[2]) > m or verdict(document, program)[0] == "right":
        return False
    broken = [word for word in every if not is_let(document, history(program, word))]
    if any(word in broken for word in chosen):
        return False
    if n == 0:
        return is_tuple_of(trees, 0)
    if not is_tuple_of(trees, len(broken)):
        return False
    return all(is_miss(document, m, (every, chosen + [word]), n - 1, tree) for word, tree in zip(broken, trees))
