"""What can stand next in a text."""

from saidandasked.freenames import free_names
from saidandasked.words import is_name

# Of states and nodes there are at most so many in a text.
MOST = 400


class Wants:
    """Some words, a new name, or numbers. Of the words the first one leads to the shortest end."""

    def __init__(self, words=(), taken=None, runs=(), rests=False, points=False):
        self.words = words
        # The names that a new name must not be, None if no new name can stand.
        self.taken = taken
        # The least and the greatest number of each run of numbers.
        self.runs = runs
        # Whether what is told so far may end here.
        self.rests = rests
        # Whether the numbers tell states or nodes, which must come in the text.
        self.points = points

    def has(self, word):
        """Whether the word is one of those that can stand."""
        if word in self.words:
            return True
        if self.taken is not None and is_name(word) and word not in self.taken:
            return True
        number = number_told(word)
        return number is not None and any(least <= number <= most for least, most in self.runs)

    def shown(self):
        """The list of the things that are wanted, as they are told."""
        found = list(self.words)
        if self.taken is not None:
            found.append("NAME")
        return found + [f"{least}..{most}" for least, most in self.runs]

    def best(self):
        """One of the words that can stand, by which a text comes to its end soonest."""
        if self.words:
            return self.words[0]
        if self.taken is not None:
            return [name for name in free_names(len(self.taken) + 1) if name not in self.taken][0]
        # The least number of a state or a node wants the fewest of them to come.
        return str(self.runs[0][0])

    def only_word(self):
        """The only word that can stand; None if there is none or more than one."""
        numbers = sum([most - least + 1 for least, most in self.runs])
        if self.taken is not None or len(self.words) + numbers != 1:
            return None
        return self.best()


def number_told(word):
    """The number, of at most three figures, that a word tells, or None."""
    if not 1 <= len(word) <= 3 or not all("0" <= sign <= "9" for sign in word):
        return None
    if len(word) > 1 and word[0] == "0":
        return None
    return int(word)


def joined(one, other):
    """What is wanted by one of both; where both want something, they want words alone."""
    taken = one.taken if other.taken is None else other.taken
    return Wants(one.words + other.words, taken, one.runs + other.runs)


def pointing(least):
    """Wants of a number of a state or a node that is not less than this one."""
    return Wants(runs=((least, MOST - 1),), points=True)


def listing(told, many, least):
    """What is wanted behind so many words of a list of numbers of nodes, which wants so many numbers in all."""
    if told == 2 * many - 1:
        return Wants(rests=True)
    return pointing(least) if told % 2 == 0 else Wants((",",))
