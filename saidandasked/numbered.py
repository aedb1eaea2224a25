"""Parts of texts that tell states and nodes by their numbers."""

from saidandasked.houses import answer_names, answers_by_call, call_names
from saidandasked.parts import Part
from saidandasked.wants import MOST, Wants, listing, pointing


class Numbered(Part):
    """Lines that begin with one word and their number. Numbers that are told must come."""

    def __init__(self, word):
        super().__init__()
        self.opener = word

    def starters(self):
        """What a line can begin with."""
        return Wants((self.opener,) if len(self.lines) < MOST else ())

    def after(self, words):
        """What is wanted behind these words of a line."""
        number = len(self.lines) - 1
        if len(words) == 1:
            return Wants(runs=((number, number),))
        return self.after_number(number, words[2:])

    def is_enough(self):
        """Whether so many whole lines are enough."""
        return len(self.lines) > self.greatest

    def told(self):
        """The tuple of the rows or nodes."""
        return tuple(self.line_told(line[2:]) for line in self.lines)


class States(Numbered):
    """The states of a program."""

    def __init__(self, house):
        super().__init__("state")
        self.call_names = call_names(house)
        self.answer_names = answer_names(house)

    def after_number(self, number, words):
        """What is wanted behind the number of a state and these words."""
        call = len(words) // 4
        if call == len(self.call_names):
            return Wants(rests=True)
        choices = (Wants((self.call_names[call],)), Wants((":",)), Wants(self.answer_names[call]), pointing(0))
        return choices[len(words) % 4]

    def line_told(self, words):
        """The row that these words tell."""
        return tuple((answer, int(state)) for answer, state in zip(words[2::4], words[3::4]))


def cheapest_first(answers):
    """The names of the calls, those with fewer answers first."""
    return tuple(sorted(list(answers), key=lambda name: len(answers[name])))


class LawNodes(Numbered):
    """The nodes of a law."""

    def __init__(self, house, objects):
        super().__init__("node")
        self.by_call = answers_by_call(house)
        self.calls = cheapest_first(self.by_call)
        self.objects = objects

    def after_number(self, number, words):
        """What is wanted behind the number of a node and these words."""
        least = 0 if self.objects == 1 else number + 1
        if not words:
            return Wants(self.deeds(least))
        if words[0] == "ask":
            return self.after_ask(least, words)
        if words[0] == "copy":
            return self.after_copy(least, words)
        if words[0] == "draw":
            return after_draw(least, words)
        return Wants(rests=True)

    def deeds(self, least):
        """The words with which a node can begin, whose nexts are not less than this."""
        if least == MOST:
            return ("true", "false")
        return ("true", "false", "ask", "draw") + (() if self.objects == 1 else ("copy",))

    def after_ask(self, least, words):
        """What is wanted behind these words of an ask."""
        if len(words) < 4:
            return (Wants(runs=((0, self.objects - 1),)), Wants(self.calls), Wants((":",)))[len(words) - 1]
        return listing(len(words) - 4, len(self.by_call[words[2]]), least)

    def after_copy(self, least, words):
        """What is wanted behind these words of a copy."""
        if len(words) == 1:
            return Wants(runs=((0, self.objects - 1),))
        if len(words) == 2:
            one = int(words[1])
            runs = ((0, one - 1), (one + 1, self.objects - 1))
            return Wants(runs=tuple(run for run in runs if run[0] <= run[1]))
        return pointing(least) if len(words) == 3 else Wants(rests=True)

    def line_told(self, words):
        """The node that these words tell."""
        if words[0] == "ask":
            return ("ask", int(words[1]), words[2], numbers_told(words[4:]))
        if words[0] == "copy":
            return ("copy", int(words[1]), int(words[2]), int(words[3]))
        if words[0] == "draw":
            return ("draw", numbers_told(words[1:]))
        return (words[0],)


def after_draw(least, words):
    """What is wanted behind these words of a draw."""
    if len(words) % 2 == 1:
        return pointing(least)
    return Wants((",",) if len(words) < 12 else (), rests=True)


def numbers_told(words):
    """The numbers of a list parted by commas."""
    return tuple(int(word) for word in words[::2])


class OuterNodes(Numbered):
    """The nodes of an outer thing."""

    def __init__(self, house, inner):
        super().__init__("node")
        self.many = len(house[1])
        # Of the answers of all calls each name once.
        self.given = tuple({name: True for names in answer_names(house) for name in names})
        self.by_call = answers_by_call(inner)
        self.calls = cheapest_first(self.by_call)

    def after_number(self, number, words):
        """What is wanted behind the number of a node and these words."""
        if not words:
            # To wait is short if there is one call alone.
            short = ("wait", "give") if self.many == 1 else ("give", "wait")
            return Wants(short + (("ask",) if number + 1 < MOST else ()))
        if words[0] == "wait":
            return listing(len(words) - 1, self.many, 0)
        if words[0] == "give":
            return (Wants(self.given), pointing(0), Wants(rests=True))[len(words) - 1]
        if len(words) < 3:
            return (Wants(self.calls), Wants((":",)))[len(words) - 1]
        return listing(len(words) - 3, len(self.by_call[words[1]]), number + 1)

    def line_told(self, words):
        """The node that these words tell."""
        if words[0] == "wait":
            return ("wait", numbers_told(words[1:]))
        if words[0] == "give":
            return ("answer", words[1], int(words[2]))
        return ("inner", words[1], numbers_told(words[3:]))
