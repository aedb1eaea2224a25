"""What is wanted of the things that are passed, with the error for each."""

from saidandasked.clauses import is_document
from saidandasked.errors import BadDocument, BadDocuments, BadHistory, BadLaw, BadName, BadProgram, OtherHouse
from saidandasked.houses import is_history
from saidandasked.lawforms import is_law
from saidandasked.programs import is_program
from saidandasked.words import is_name


def need_document(document):
    """BadDocument for any value that is no document."""
    if not is_document(document):
        raise BadDocument("no document")


def need_program(program):
    """BadProgram for any value that is no program."""
    if not is_program(program):
        raise BadProgram("no program")


def need_rule(rule):
    """BadLaw for any value that is no law."""
    if not is_law(rule):
        raise BadLaw("no law")


def need_name(name):
    """BadName for any value that is no name."""
    if not is_name(name):
        raise BadName("no name")


def need_history(house, history):
    """BadHistory for any value that is no history of the house."""
    if not is_history(house, history):
        raise BadHistory("no history of the house")


def need_one_house(one, other):
    """OtherHouse if two documents, programs or laws have unlike houses."""
    if one[1] != other[1]:
        raise OtherHouse("unlike houses")


def need_documents(one, other):
    """What two documents that are passed together must be."""
    need_document(one)
    need_document(other)
    need_one_house(one, other)


def need_programs(one, other):
    """What two programs that are passed together must be."""
    need_program(one)
    need_program(other)
    need_one_house(one, other)


def need_document_and_program(document, program):
    """What a document and a program that are passed together must be."""
    need_document(document)
    need_program(program)
    need_one_house(document, program)


def need_document_and_rule(document, rule):
    """What a document and a law that are passed together must be."""
    need_document(document)
    need_rule(rule)
    need_one_house(document, rule)


def need_document_and_others(document, others):
    """What a document and a tuple of 1 to 3 others that are passed together must be."""
    need_document(document)
    if not isinstance(others, tuple) or not 1 <= len(others) <= 3:
        raise BadDocuments(None)
    for at, other in enumerate(others):
        if not is_document(other):
            raise BadDocuments(at)
    for other in others:
        need_one_house(document, other)
