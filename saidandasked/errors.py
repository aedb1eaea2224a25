"""The errors: PageError, and all others directly below it."""


class PageError(ValueError):
    """What the package raises, whatever is wrong."""


class BadAnswer(PageError):
    """No answer of that call."""


class BadAnswers(PageError):
    """No list of one answer for each call of the word."""


class BadBit(PageError):
    """No bit."""


class BadBits(PageError):
    """No list of bits, or a wrong item at the index."""

    def __init__(self, at):
        super().__init__("no list of bits, or a wrong item at the index")
        self.at = at


class BadCall(PageError):
    """No call's name."""


class BadClause(PageError):
    """No clause of the house."""


class BadCount(PageError):
    """No number from 0 on that fits."""


class BadDocument(PageError):
    """No document."""


class BadDocuments(PageError):
    """No list of documents as told, or a wrong item at the index."""

    def __init__(self, at):
        super().__init__("no list of documents as told, or a wrong item at the index")
        self.at = at


class BadFuture(PageError):
    """No such future."""


class BadGroup(PageError):
    """No group of laws."""


class BadHistories(PageError):
    """No list of histories as told, or a wrong item at the index."""

    def __init__(self, at):
        super().__init__("no list of histories as told, or a wrong item at the index")
        self.at = at


class BadHistory(PageError):
    """No history of the house."""


class BadHouse(PageError):
    """No house."""


class BadIndex(PageError):
    """No index of a clause."""


class BadLaw(PageError):
    """No law."""


class BadLaws(PageError):
    """No list of laws as told, or a wrong item at the index."""

    def __init__(self, at):
        super().__init__("no list of laws as told, or a wrong item at the index")
        self.at = at


class BadLeft(PageError):
    """Neither None nor a number from 0 on."""


class BadLimit(PageError):
    """No number within the limit."""


class BadMany(PageError):
    """No number of the told range."""


class BadMeaning(PageError):
    """No meaning."""


class BadMost(PageError):
    """No number of the told range."""


class BadName(PageError):
    """No name, or no name of such a thing."""


class BadNames(PageError):
    """No list or dict of names as told."""


class BadNumber(PageError):
    """No number of a future."""


class BadOuter(PageError):
    """No outer thing."""


class BadPaper(PageError):
    """The paper of this word is none."""

    def __init__(self, word):
        super().__init__("the paper of this word is none")
        self.word = word


class BadPool(PageError):
    """No pool."""


class BadProgram(PageError):
    """No program."""


class BadPrograms(PageError):
    """No list of normal programs as told."""


class BadScript(PageError):
    """No script."""


class BadSet(PageError):
    """No set of a pool."""


class BadStand(PageError):
    """No stand by its form."""


class BadState(PageError):
    """No state of the program."""


class BadSuite(PageError):
    """No suite."""


class BadText(PageError):
    """The text cannot stand: where, and what is wanted there."""

    def __init__(self, line, column, wanted):
        super().__init__("the text cannot stand: where, and what is wanted there")
        self.line = line
        self.column = column
        self.wanted = wanted


class BadThing(PageError):
    """None of the things told."""


class BadWord(PageError):
    """No word of the house."""


class Empty(PageError):
    """A meaning without rows."""


class Ended(PageError):
    """All bits are read."""


class ManyObjects(PageError):
    """A law of more than one object."""


class NoDifference(PageError):
    """The guess answers the word so."""


class NotAsked(PageError):
    """No word is asked for."""


class NotDone(PageError):
    """Not all is read."""


class NotEnough(PageError):
    """The limit is not enough."""


class NotGuessed(PageError):
    """Nothing is guessed."""


class NotMet(PageError):
    """The stand does not come."""


class NotOrderly(PageError):
    """The program is not orderly."""


class NotPossible(PageError):
    """The answer at the index is not possible."""

    def __init__(self, at):
        super().__init__("the answer at the index is not possible")
        self.at = at


class NotRight(PageError):
    """The program breaks the document on the word."""

    def __init__(self, word):
        super().__init__("the program breaks the document on the word")
        self.word = word


class NotTrue(PageError):
    """The law has another verdict than true."""

    def __init__(self, word):
        super().__init__("the law has another verdict than true")
        self.word = word


class NothingDone(PageError):
    """Nothing to take back."""


class NothingUndone(PageError):
    """No undo to take back."""


class OtherHouse(PageError):
    """The things have unlike houses."""


class OverAsks(PageError):
    """A right program fails the law at the index."""

    def __init__(self, at):
        super().__init__("a right program fails the law at the index")
        self.at = at


class Parted(PageError):
    """The programs answer the word otherwise."""

    def __init__(self, word):
        super().__init__("the programs answer the word otherwise")
        self.word = word


class SameName(PageError):
    """Two unlike clauses have this name."""

    def __init__(self, name):
        super().__init__("two unlike clauses have this name")
        self.name = name


class Sound(PageError):
    """The document is sound."""


class TooMany(PageError):
    """More than there may be."""


class TooShort(PageError):
    """This program breaks the document on longer words alone."""

    def __init__(self, program):
        super().__init__("this program breaks the document on longer words alone")
        self.program = program


class Unsound(PageError):
    """The document is not sound."""
