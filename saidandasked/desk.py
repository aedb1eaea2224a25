"""A desk: a document, a history and laws, which lines change and ask for."""

from saidandasked.errors import BadDocument, NothingDone, NothingUndone, PageError
from saidandasked.lines import DEEDS, QUESTIONS, form_of
from saidandasked.reading import read
from saidandasked.words import is_text


class Desk:
    """Holds pages, as lines tells of them: the one it is at, those behind it and those that were taken back."""

    def __init__(self, text):
        document = read(text)
        if document[0] != "document":
            raise BadDocument("the text tells no document")
        self.page = (document, (), ())
        self.past = []
        self.taken_back = []

    def say(self, line):
        """The answer to any value: to what a line does or asks for."""
        form = form_of(line) if is_text(line) else None
        if form is None:
            return "what"
        try:
            return self.answered(form[0], form[1])
        except PageError as error:
            return "error " + error.__class__.__name__

    def answered(self, head, rest):
        """The answer to a line of one of the forms."""
        if head == "undo":
            if not self.past:
                raise NothingDone("no deed to take back")
            self.taken_back.append(self.page)
            self.page = self.past.pop()
            return "ok"
        if head == "redo":
            if not self.taken_back:
                raise NothingUndone("no undo to take back")
            self.past.append(self.page)
            self.page = self.taken_back.pop()
            return "ok"
        if head in QUESTIONS:
            question = QUESTIONS[head]
            return question(self.page, rest)
        deed = DEEDS[head]
        page, told = deed(self.page, rest)
        self.past.append(self.page)
        self.page = page
        self.taken_back = []
        return told
