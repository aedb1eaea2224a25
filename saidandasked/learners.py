"""A program is found by asking for the answers to words, and by guessing."""

from saidandasked.errors import BadAnswers, BadWord, NoDifference, NotAsked, NotGuessed, NotPossible, NotRight
from saidandasked.hearsay import Hearsay
from saidandasked.houses import answers_by_call, is_word
from saidandasked.kinds import is_list, is_string_among
from saidandasked.normals import normal, parting
from saidandasked.programs import entries_of
from saidandasked.ranks import sound_graph
from saidandasked.rights import verdict


class Learner:
    """Finds the program, right by the document, that a teller has in mind.

    It holds beginnings, which the tests behind them show to be unlike. When each beginning with one more call is like
    some beginning, these are the states of a program. Words are tuples of the indexes of calls within.
    """

    def __init__(self, document):
        self.graph = sound_graph(document)
        self.document = document
        self.hearsay = Hearsay(self.graph)
        self.heard = []
        # The beginnings, as nodes of the hearsay.
        self.nodes = [0]
        self.tests = [(call,) for call in range(len(document[1][1]))]
        # For each node the numbers of the answers to the tests behind it, as far as they are known.
        self.marks = {}
        self.numbers = {}
        self.want = self.next_want()

    def wants(self):
        """What is wanted: ("word", word), ("guess", program) or ("known", program)."""
        return self.want

    def answer(self, answers):
        """Be told the answers to the word that is asked for."""
        if self.want[0] != "word":
            raise NotAsked("no word is asked for")
        word = self.want[1]
        self.need_possible(word, answers)
        self.hear(word, answers)

    def differs(self, word, answers):
        """Be told the answers to a word that the guess answers otherwise."""
        if not is_word(self.document[1], word) or not word:
            raise BadWord("no word of one or more calls")
        if self.want[0] != "guess":
            raise NotGuessed("nothing is guessed")
        self.need_possible(word, answers)
        if answers_on(self.want[1], word) == tuple(answers):
            raise NoDifference("the guess answers the word so")
        self.hear(word, answers)

    def agrees(self):
        """Be told that the guess is the program."""
        if self.want[0] != "guess":
            raise NotGuessed("nothing is guessed")
        self.want = ("known", self.want[1])

    def told(self):
        """The list of the histories that were told, as they came."""
        return list(self.heard)

    def copied(self):
        """A learner of its own in the same state."""
        twin = Learner(self.document)
        twin.hearsay = self.hearsay.copy_of()
        twin.heard = list(self.heard)
        twin.nodes = list(self.nodes)
        twin.tests = list(self.tests)
        twin.marks = {node: list(self.marks[node]) for node in self.marks}
        twin.numbers = {told: self.numbers[told] for told in self.numbers}
        twin.want = self.want
        return twin

    def need_possible(self, word, answers):
        """What is wanted of the answers to a word."""
        names = answers_by_call(self.document[1])
        if not is_list(answers) or len(answers) != len(word):
            raise BadAnswers("no list of one answer for each call")
        if not all(is_string_among(answer, names[call]) for call, answer in zip(word, answers)):
            raise BadAnswers("no answers of the calls")
        calls, told = self.by_numbers(word, answers)
        at = self.hearsay.first_impossible(calls, told)
        if at is not None:
            raise NotPossible(at)

    def by_numbers(self, word, answers):
        """The indexes of the calls and of the answers."""
        calls = tuple(self.hearsay.call_number[call] for call in word)
        names = self.graph.table.answer_names
        return calls, tuple(names[call].index(answer) for call, answer in zip(calls, answers))

    def hear(self, word, answers):
        """Note a history that is possible."""
        self.heard.append(tuple(zip(word, answers)))
        calls, told = self.by_numbers(word, answers)
        self.hearsay.take(calls, told)
        self.want = self.next_want()

    def next_want(self):
        """What is wanted by what is known; beginnings and tests are added until something is."""
        want = None
        while want is None:
            word = self.missing_word()
            want = self.judged_guess() if word is None else self.asking(word)
        return want

    def asking(self, word):
        """The want of the answers to a word."""
        return "word", tuple(self.graph.table.call_names[call] for call in word)

    def missing(self, node):
        """Mark the tests behind the node; the first word whose answers are missing for it, or None."""
        marks = self.marks.setdefault(node, [])
        for test in self.tests[len(marks):]:
            told = self.hearsay.answers_behind(node, test)
            if told is None:
                return self.hearsay.word_to(node) + test
            marks.append(self.numbers.setdefault(told, len(self.numbers)))
        return None

    def missing_word(self):
        """The first word that is missing until each beginning with one more call is like a beginning, or None."""
        for node in self.nodes:
            word = self.missing(node)
            if word is not None:
                return word
        known = self.states_by_marks()
        at = 0
        while at < len(self.nodes):
            for call in range(len(self.graph.table.call_names)):
                node = self.hearsay.node_behind(self.nodes[at], (call,))
                word = self.missing(node)
                if word is not None:
                    return word
                marks = tuple(self.marks[node])
                if marks not in known:
                    known[marks] = len(self.nodes)
                    self.nodes.append(node)
            at += 1
        return None

    def states_by_marks(self):
        """The dict from the marks of the beginnings to their indexes."""
        return {tuple(self.marks[node]): at for at, node in enumerate(self.nodes)}

    def guessed_rows(self):
        """The rows of the program whose states are the beginnings, with the indexes of answers."""
        known = self.states_by_marks()
        rows = []
        for node in self.nodes:
            behind = [self.hearsay.steps[node][call] for call in range(len(self.graph.table.call_names))]
            rows.append([(answer, known[tuple(self.marks[to])]) for answer, to in behind])
        return rows

    def judged_guess(self):
        """The want that the guess leads to: itself, or a word. None if it has led to a further test, or to more known.

        A guess has all that is known, and is right.
        """
        rows = self.guessed_rows()
        unlike = self.hearsay.first_unlike(rows)
        if unlike is not None:
            return self.split(rows, self.hearsay.word_to(unlike[0]) + (unlike[1],))
        names = self.graph.table.answer_names
        told = [tuple((names[call][answer], to) for call, (answer, to) in enumerate(row)) for row in rows]
        program = ("program", self.document[1], tuple(told))
        found = verdict(self.document, program)
        if found[0] == "right":
            return "guess", normal(program)
        word = tuple(self.hearsay.call_number[call] for call in found[1])
        if self.hearsay.answers_behind(0, word) is None:
            return self.asking(word)
        self.hearsay.node_behind(0, word)
        return None

    def split(self, rows, word):
        """Find a further test by a word whose last call alone is known to be answered otherwise than by these rows.

        The calls behind some place of the word are a test that tells a beginning with one more call apart from the
        beginning to which it leads. A word is wanted if the place is not known yet; otherwise None.
        """
        states = [0]
        for call in word[:-1]:
            states.append(rows[states[-1]][call][1])
        guessed = rows[states[-1]][word[-1]][0]
        # Begun at the lower place, the rest of the word is answered otherwise than guessed; at the higher one not.
        low = 0
        high = len(word) - 1
        while high - low > 1:
            middle = (low + high) // 2
            node = self.nodes[states[middle]]
            told = self.hearsay.answers_behind(node, word[middle:])
            if told is None:
                return self.asking(self.hearsay.word_to(node) + word[middle:])
            if told[-1] == guessed:
                high = middle
            else:
                low = middle
        self.tests.append(word[high:])
        return None


def answers_on(program, word):
    """The tuple of the program's answers to the word."""
    return tuple(pair[0] for pair in entries_of(program, word))


def learn(document, program):
    """What a learner comes to know of the program, and the list of what it was told."""
    sound_graph(document)
    found = verdict(document, program)
    if found[0] == "breaks":
        raise NotRight(found[1])
    learner = Learner(document)
    while learner.wants()[0] != "known":
        kind, thing = learner.wants()
        word = thing if kind == "word" else parting(program, thing)
        if word is None:
            learner.agrees()
        elif kind == "word":
            learner.answer(answers_on(program, word))
        else:
            learner.differs(word, answers_on(program, word))
    return learner.wants()[1], learner.told()
