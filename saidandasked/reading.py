"""Texts, read word by word or refused at the first word that cannot stand."""

from saidandasked.errors import BadHouse, BadOuter, BadText
from saidandasked.houses import call_names, is_house
from saidandasked.numbered import LawNodes, OuterNodes, States
from saidandasked.outers import is_outer
from saidandasked.parts import Calls, Clauses, Opening
from saidandasked.wants import joined
from saidandasked.words import words_of


class Passage:
    """The parts of a text, as far as they are told."""

    def __init__(self, first):
        self.parts = [first]

    def next_part(self):
        """The part that comes behind the last one, with nothing in it; None if none does."""
        many = len(self.parts)
        if not isinstance(self.parts[0], Opening):
            return None
        word = self.first_word()
        if many == 1:
            return Calls(4 if word == "outer" else 5, (), ())
        if many == 2:
            return part_behind(word, self.parts[0].lines[0], self.parts[1].told())
        if many == 3 and word == "outer":
            return OuterNodes(self.parts[1].told(), self.parts[2].told())
        return None

    def first_word(self):
        """The first word of the text."""
        return self.parts[0].lines[0][0]

    def next_if_ended(self):
        """The next part if the last one may end here, otherwise None."""
        return self.next_part() if self.parts[-1].may_end() else None

    def wants(self):
        """What can stand next."""
        found = self.parts[-1].wants()
        coming = self.next_if_ended()
        return found if coming is None else joined(found, coming.wants())

    def take(self, word):
        """Go on with a word that can stand next."""
        if not self.parts[-1].wants().has(word):
            self.parts.append(self.next_part())
        self.parts[-1].take(word)

    def is_whole(self):
        """Whether the text may end here."""
        if not self.parts[-1].may_end():
            return False
        coming = self.next_part()
        return coming is None or coming.may_end()

    def shown(self):
        """Wanted, as it is told."""
        found = self.wants().shown() + (["END"] if self.is_whole() else [])
        return tuple(sorted(set(found)))

    def soonest(self):
        """A word with which a text that is not whole comes to its end soonest."""
        here = self.parts[-1].within()
        if not here.rests:
            return here.best()
        coming = self.next_if_ended()
        return self.parts[-1].starters().best() if coming is None else coming.starters().best()

    def told(self):
        """The thing that a whole text tells."""
        word = self.first_word()
        parts = [part.told() for part in self.parts[1:]]
        if word == "house":
            return parts[0]
        if word == "law":
            return ("law", parts[0], int(self.parts[0].lines[0][1]), parts[1])
        if word == "document" and len(parts) == 1:
            parts.append(())
        return (word,) + tuple(parts)


def part_behind(word, opening, house):
    """The part behind the first house of a text that begins so; None behind a house."""
    if word == "document":
        return Clauses(house, 0, 8)
    if word == "program":
        return States(house)
    if word == "law":
        return LawNodes(house, int(opening[1]))
    if word == "outer":
        return Calls(5 - len(house[1]), call_names(house), ("inner",))
    return None


def passed(passage, text):
    """The passage, gone on with the words of the text, all of which must be able to stand."""
    for word, line, column in words_of(text):
        if not passage.wants().has(word):
            raise BadText(line, column, passage.shown())
        passage.take(word)
    return passage


def passed_whole(passage, text):
    """As passed, of a text that must be whole."""
    passed(passage, text)
    if not passage.is_whole():
        lines = text.split("\n")
        raise BadText(len(lines), len(lines[-1]) + 1, passage.shown())
    return passage


def can_follow(text):
    """Wanted behind all words of the text."""
    return passed(Passage(Opening()), text).shown()


def read(text):
    """The thing that the text tells."""
    thing = passed_whole(Passage(Opening()), text).told()
    if thing[0] == "outer" and not is_outer(thing):
        raise BadOuter("the nodes are no outer thing")
    return thing


def read_clause(house, text):
    """The clause of the house that the text tells."""
    if not is_house(house):
        raise BadHouse("no house")
    return passed_whole(Passage(Clauses(house, 1, 1)), text).parts[0].told()[0]
