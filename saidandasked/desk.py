"""A desk: a document, a history and laws, which lines change and ask for."""

from saidandasked.errors import (
    BadAnswer, BadCall, BadDocument, BadLaw, BadLaws, BadLimit, BadName, BadOuter, BadProgram, BadText, BadWord,
    NothingDone, NothingUndone, OtherHouse, OverAsks, TooMany, Unsound,
)
from saidandasked.lines import DEEDS, QUESTIONS, form_of
from saidandasked.reading import read
from saidandasked.words import is_text


class Desk:
    """Holds pages, as lines tells of them: the one it is at, those behind it and those that were taken back."""

    def __init__(self, text):
        document = read(text)
        if document[0] != "document":
            raise BadDocument("the text tells no document")
        self.page = (document, (), ())
        self.past = []
        self.taken_back = []

    def say(self, line):
        """The answer to any value: to what a line does or asks for."""
        form = form_of(line) if is_text(line) else None
        return "what" if form is None else self.outcome(form[0], form[1])

    def outcome(self, head, rest):
        """The answer to a line of one of the forms, or the name of the error that it raises."""
        # These are all the errors that deeds and questions can come to: what they pass on is good but for them.
        try:
            return self.answered(head, rest)
        except BadAnswer:
            return "error BadAnswer"
        except BadCall:
            return "error BadCall"
        except BadLaw:
            return "error BadLaw"
        except BadLaws:
            return "error BadLaws"
        except BadLimit:
            return "error BadLimit"
        except BadName:
            return "error BadName"
        except BadOuter:
            return "error BadOuter"
        except BadProgram:
            return "error BadProgram"
        except BadText:
            return "error BadText"
        except BadWord:
            return "error BadWord"
        except NothingDone:
            return "error NothingDone"
        except NothingUndone:
            return "error NothingUndone"
        except OtherHouse:
            return "error OtherHouse"
        except OverAsks:
            return "error OverAsks"
        except TooMany:
            return "error TooMany"
        except Unsound:
            return "error Unsound"

    def answered(self, head, rest):
        """The answer to a line of one of the forms."""
        if head == "undo":
            if not self.past:
                raise NothingDone("no deed to take back")
            self.taken_back.append(self.page)
            self.page = self.past.pop()
            return "ok"
        if head == "redo":
            if not self.taken_back:
                raise NothingUndone("no undo to take back")
            self.past.append(self.page)
            self.page = self.taken_back.pop()
            return "ok"
        if head in QUESTIONS:
            question = QUESTIONS[head]
            return question(self.page, rest)
        deed = DEEDS[head]
        page, told = deed(self.page, rest)
        self.past.append(self.page)
        self.page = page
        self.taken_back = []
        return told
