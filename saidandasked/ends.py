"""How texts that are begun must go on, and how they come to their ends soonest."""

from saidandasked.parts import Opening
from saidandasked.reading import Passage, passed


def forced(text):
    """The longest tuple of words with which every whole text goes on that begins with those of this one."""
    passage = passed(Passage(Opening()), text)
    found = []
    while not passage.is_whole() and passage.wants().only_word() is not None:
        found.append(passage.wants().only_word())
        passage.take(found[-1])
    return tuple(found)


def shortest_end(text):
    """A shortest tuple of words with which the text becomes whole."""
    passage = passed(Passage(Opening()), text)
    found = []
    while not passage.is_whole():
        found.append(passage.soonest())
        passage.take(found[-1])
    return tuple(found)
