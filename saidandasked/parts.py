"""Parts of texts that tell calls and clauses. A part is told by lines, which are lists of words."""

from saidandasked.houses import answers_by_call, call_names
from saidandasked.wants import Wants, joined


class Part:
    """The lines of a part, of which the last one may not be whole yet."""

    def __init__(self):
        self.lines = []
        # The greatest number of a state or a node that is told.
        self.greatest = 0

    def within(self):
        """What the last line wants next."""
        return self.after(self.lines[-1]) if self.lines else Wants(rests=True)

    def wants(self):
        """What can stand next in this part."""
        here = self.within()
        return joined(here, self.starters()) if here.rests else here

    def take(self, word):
        """Go on with a word that can stand next."""
        here = self.within()
        if here.has(word):
            if here.points:
                self.greatest = max(self.greatest, int(word))
            self.lines[-1].append(word)
        else:
            self.lines.append([word])
            self.begun()

    def may_end(self):
        """Whether the part may end here."""
        return self.within().rests and self.is_enough()

    def begun(self):
        """Note that a line is begun."""


class Opening(Part):
    """The first word of a text, and how many objects a law has."""

    def starters(self):
        """What a line can begin with."""
        return Wants(() if self.lines else ("house", "document", "law", "outer", "program"))

    def after(self, words):
        """What is wanted behind these words of a line."""
        return Wants(runs=((1, 3),)) if words == ["law"] else Wants(rests=True)

    def is_enough(self):
        """Whether so many whole lines are enough."""
        return len(self.lines) == 1


class Calls(Part):
    """CALLS, with some words ahead of them, and names that no call may have."""

    def __init__(self, most, names, ahead):
        super().__init__()
        self.most = most
        self.names = names
        self.ahead = ahead

    def call_lines(self):
        """The lines that tell calls."""
        return self.lines[len(self.ahead):]

    def starters(self):
        """What a line can begin with."""
        if len(self.lines) < len(self.ahead):
            return Wants(self.ahead)
        return Wants(("call",) if len(self.call_lines()) < self.most else ())

    def after(self, words):
        """What is wanted behind these words of a line."""
        if words[0] != "call":
            return Wants(rests=True)
        if len(words) == 1:
            return Wants(taken=self.names + tuple(line[1] for line in self.call_lines()[:-1]))
        return names_after(words, 5)

    def is_enough(self):
        """Whether so many whole lines are enough."""
        return len(self.call_lines()) > 0

    def told(self):
        """The house."""
        return ("house", tuple(("call", line[1], tuple(line[3::2])) for line in self.call_lines()))


def names_after(words, most):
    """What is wanted behind a word, a name, and some of : and of 1 to so many new names parted by commas."""
    if len(words) == 2:
        return Wants((":",))
    names = tuple(words[3::2])
    if len(words) % 2 == 1:
        return Wants(taken=names)
    return Wants((",",) if len(names) < most else (), rests=True)


class Clauses(Part):
    """CLAUSE so many times. Its lines are the first ones of clauses, and rows."""

    def __init__(self, house, least, most):
        super().__init__()
        self.call_names = call_names(house)
        self.by_call = answers_by_call(house)
        self.least = least
        self.most = most
        self.heads = []
        # The rows of the last clause.
        self.row_lines = []

    def begun(self):
        """Note that a line is begun."""
        line = self.lines[-1]
        if line[0] == "clause":
            self.heads.append(line)
            self.row_lines = []
        else:
            self.row_lines.append(line)

    def places(self):
        """The places of the last clause."""
        return tuple(self.heads[-1][3::2])

    def starters(self):
        """What a line can begin with."""
        words = ("clause",) if len(self.heads) < self.most else ()
        if not self.heads:
            return Wants(words)
        if not self.row_lines:
            return Wants(self.places() + words)
        place, call = self.row_lines[-1][:2]
        # Only behind the last call the place has no further row.
        rest = behind(self.places(), place)
        return Wants((rest if call == self.call_names[-1] else (place,) + rest) + words)

    def after(self, words):
        """What is wanted behind these words of a line."""
        if words[0] == "clause":
            if len(words) == 1:
                return Wants(taken=tuple(line[1] for line in self.heads[:-1]))
            return names_after(words, 40)
        if len(words) == 1:
            return Wants(self.later_calls(words[0]))
        if len(words) == 2:
            return Wants((":",))
        if len(words) == 3:
            return Wants(("never",) + self.by_call[words[1]])
        return self.after_lets(self.by_call[words[1]], words[3:])

    def later_calls(self, place):
        """The calls that can stand behind the place of the last row."""
        if len(self.row_lines) > 1 and self.row_lines[-2][0] == place:
            return behind(self.call_names, self.row_lines[-2][1])
        return self.call_names

    def after_lets(self, answers, words):
        """What is wanted behind these words of the lets of a row, a call with these answers."""
        places = self.places()
        if words == ["never"]:
            return Wants(rests=True)
        if len(words) % 3 == 2:
            last = words[-2:] == [answers[-1], places[-1]]
            return Wants(() if last else (",",), rests=True)
        if len(words) % 3 == 0:
            rest = behind(answers, words[-3])
            return Wants(rest if words[-2] == places[-1] else (words[-3],) + rest)
        if len(words) > 1 and words[-4] == words[-1]:
            return Wants(behind(places, words[-3]))
        return Wants(places)

    def is_enough(self):
        """Whether so many whole lines are enough."""
        return len(self.heads) >= self.least

    def told(self):
        """The tuple of the clauses."""
        found = []
        for line in self.lines:
            if line[0] == "clause":
                found.append((line[1], tuple(line[3::2]), []))
            else:
                found[-1][2].append((line[0], line[1], lets_told(line[3:])))
        return tuple(("clause", name, places, tuple(rows)) for name, places, rows in found)


def behind(names, name):
    """The names behind this one."""
    return names[names.index(name) + 1:]


def lets_told(words):
    """The lets that these words of a row tell; "never" has no place behind it."""
    return tuple((answer, place) for answer, place in zip(words[::3], words[1::3]))
