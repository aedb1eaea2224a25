"""Right programs as bits, none of which is wasted."""

from saidandasked.errors import BadBits, NotOrderly, NotRight
from saidandasked.kinds import is_list, is_number_between
from saidandasked.merging import met_from
from saidandasked.mending import own_entries
from saidandasked.needs import need_one_house, need_program
from saidandasked.ranks import sound_graph
from saidandasked.rights import verdict
from saidandasked.writing import Decoding, Writing, code_of


def is_bit(thing):
    """Whether any value is the number 0 or 1."""
    return is_number_between(thing, 0, 1)


def is_orderly(program):
    """Whether all states are met, and numbered as they are met."""
    moves = [[to for _, to in row] for row in program[2]]
    return met_from(0, moves) == list(range(len(moves)))


def pack(document, program):
    """The list of the bits of an orderly right program."""
    graph = sound_graph(document)
    need_program(program)
    need_one_house(document, program)
    if not is_orderly(program):
        raise NotOrderly("the states are not met in order")
    found = verdict(document, program)
    if found[0] == "breaks":
        raise NotRight(found[1])
    writing = Writing(graph)
    bits = []
    for row in own_entries(graph, program):
        for choice in row:
            choices = writing.choices()
            bits.extend(code_of(choices.index(choice), len(choices)))
            writing.write(choice)
    return bits


def decoded(document, bits):
    """What the bits tell, which must not go on behind the end of the last entry."""
    graph = sound_graph(document)
    if not is_list(bits):
        raise BadBits(None)
    decoding = Decoding(graph)
    for at, bit in enumerate(bits):
        if decoding.writing.is_done() or not is_bit(bit):
            raise BadBits(at)
        decoding.take(bit)
    return decoding


def unpack(document, bits):
    """The program that has these bits."""
    decoding = decoded(document, bits)
    if not decoding.writing.is_done():
        raise BadBits(len(bits))
    return decoding.writing.whole()


def filled(document, bits):
    """The list of the bits of a program that begin with these and go on with 1s alone."""
    decoding = decoded(document, bits)
    found = list(bits)
    while not decoding.writing.is_done():
        decoding.take(1)
        found.append(1)
    return found
