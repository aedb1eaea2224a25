"""Sites of laws over a document: a node with a safe stand, or with words of several objects and what they were told."""

from saidandasked.kinds import is_string_among, is_tuple_of, rises
from saidandasked.runs import bare, with_state
from saidandasked.walks import Walk


class StandSites:
    """The sites of a law of one object: pairs of a node and the index of a safe stand."""

    def __init__(self, graph, rule):
        self.graph = graph
        self.nodes = rule[3]
        self.call_number = {name: at for at, name in enumerate(graph.table.call_names)}
        self.first = (0, 0)

    def leads_on(self, site):
        """The list of the pairs of a step and the site behind it.

        A step is the pair (call, answer) of an ask, or the number of what is drawn.
        """
        at, stand = site
        node = self.nodes[at]
        if node[0] == "draw":
            return [(number, (to, stand)) for number, to in enumerate(node[1])]
        if node[0] != "ask":
            return []
        call = self.call_number[node[2]]
        names = self.graph.table.answer_names[call]
        leads = self.graph.moves[stand][call]
        return [((node[2], names[answer]), (node[3][answer], leads[answer]))
                for answer in self.graph.held_answers(stand, call)]

    def histories(self, site, steps):
        """The histories that are made on the steps to this site."""
        return [tuple(step for step in steps if isinstance(step, tuple))]

    def key(self, site):
        """What sites are compared by."""
        return site[0], self.graph.key(site[1])

    def shown(self, site):
        """The site as it is told."""
        return site[0], self.graph.shown(site[1])

    def seen(self, node, thing):
        """The site of this node that any value tells, or None."""
        stand = self.graph.index_seen(thing)
        return (node, stand) if self.graph.is_held(stand) else None


class WordSites:
    """The sites of a law of several objects: triples of a node, the objects' words, and what was told.

    Words have numbers; what was told are the pairs (number of a word, index of the answer to its last call).
    """

    def __init__(self, graph, rule):
        self.graph = graph
        self.nodes = rule[3]
        self.objects = rule[2]
        self.call_number = {name: at for at, name in enumerate(graph.table.call_names)}
        # The words, as tuples of the indexes of calls, and for each the numbers of those with one call more.
        self.words = [()]
        self.longer = [{}]
        self.first = (0, (0,) * rule[2], ())

    def word_behind(self, word, call):
        """The number of the word with one call more."""
        if call not in self.longer[word]:
            self.longer[word][call] = len(self.words)
            self.words.append(self.words[word] + (call,))
            self.longer.append({})
        return self.longer[word][call]

    def stand_behind(self, told, word):
        """The index of the stand behind the word, all of whose answers are told."""
        at = 0
        number = 0
        for call in self.words[word]:
            number = self.longer[number][call]
            at = self.graph.moves[at][call][told[number]]
        return at

    def leads_on(self, site):
        """As those of the sites of one object; the step of a copy is None."""
        at, words, kept = site
        node = self.nodes[at]
        if node[0] == "draw":
            return [(number, (to, words, kept)) for number, to in enumerate(node[1])]
        if node[0] == "copy":
            return [(None, (node[3], with_state(words, node[1], words[node[2]]), kept))]
        if node[0] != "ask":
            return []
        call = self.call_number[node[2]]
        word = self.word_behind(words[node[1]], call)
        there = with_state(words, node[1], word)
        told = {number: answer for number, answer in kept}
        names = self.graph.table.answer_names[call]
        if word in told:
            return [((node[2], names[told[word]]), (node[3][told[word]], there, kept))]
        stand = self.stand_behind(told, words[node[1]])
        return [((node[2], names[answer]), (node[3][answer], there, tuple(sorted(kept + ((word, answer),)))))
                for answer in self.graph.held_answers(stand, call)]

    def histories(self, site, steps):
        """The histories that are told at this site, however it was come to."""
        told = {number: answer for number, answer in site[2]}
        return [self.history(told, word) for word in told]

    def history(self, told, word):
        """The history of a word, all of whose answers are told."""
        table = self.graph.table
        found = []
        number = 0
        for call in self.words[word]:
            number = self.longer[number][call]
            found.append((table.call_names[call], table.answer_names[call][told[number]]))
        return tuple(found)

    def word_key(self, word):
        """What words are compared by: a shorter one comes ahead, then call by call."""
        return len(self.words[word]), self.words[word]

    def told_in_order(self, kept):
        """What was told, in the order of the words."""
        return sorted(kept, key=lambda pair: self.word_key(pair[0]))

    def key(self, site):
        """What sites are compared by."""
        words = tuple(self.word_key(word) for word in site[1])
        kept = tuple((self.word_key(word), answer) for word, answer in self.told_in_order(site[2]))
        return site[0], words, kept

    def shown(self, site):
        """The site as it is told."""
        words = tuple(self.word_shown(word) for word in site[1])
        kept = tuple((self.word_shown(word), self.answer_shown(word, answer))
                     for word, answer in self.told_in_order(site[2]))
        return site[0], (words, kept)

    def word_shown(self, word):
        """The tuple of the names of the word's calls."""
        return tuple(self.graph.table.call_names[call] for call in self.words[word])

    def answer_shown(self, word, answer):
        """The name of an answer to the word's last call."""
        return self.graph.table.answer_names[self.words[word][-1]][answer]

    def seen(self, node, thing):
        """The site of this node that any value tells, or None."""
        if not is_tuple_of(thing, 2) or not is_tuple_of(thing[0], self.objects) or not isinstance(thing[1], tuple):
            return None
        told = self.told_seen(thing[1])
        if told is None:
            return None
        words = [self.word_seen(word) for word in thing[0]]
        if not all(word == 0 or word in told for word in words):
            return None
        return node, tuple(words), tuple(sorted(list(told.items())))

    def word_seen(self, thing):
        """The number of the word that any value is, or None."""
        if not isinstance(thing, tuple):
            return None
        if not all(is_string_among(name, self.call_number) for name in thing):
            return None
        word = 0
        for name in thing:
            word = self.word_behind(word, self.call_number[name])
        return word

    def told_seen(self, thing):
        """The dict from words to answers that a tuple tells, or None if it is not told by its form."""
        told = {}
        ways = []
        for pair in thing:
            word = self.word_seen(pair[0]) if is_tuple_of(pair, 2) else None
            if word is None or word == 0:
                return None
            names = self.graph.table.answer_names[self.words[word][-1]]
            if not is_string_among(pair[1], names):
                return None
            told[word] = names.index(pair[1])
            ways.append(self.word_key(word))
        if not rises(ways):
            return None
        return told if all(self.leads_to_held(told, word) for word in told) else None

    def leads_to_held(self, told, word):
        """Whether all beginnings of the word are told as well, and its history leads to a safe stand."""
        at = 0
        number = 0
        for call in self.words[word]:
            number = self.longer[number][call]
            if number not in told:
                return False
            at = self.graph.moves[at][call][told[number]]
            if not self.graph.is_held(at):
                return False
        return True


def sites_of(graph, rule):
    """The sites of the law over the document of the graph."""
    if rule[2] == 1:
        return StandSites(graph, rule)
    return WordSites(graph, rule)


class Spread:
    """The sites that come from some first ones, known by their indexes, as met."""

    def __init__(self, sites, firsts):
        self.sites = sites
        self.walk = Walk(firsts[0])
        for site in firsts:
            self.walk.begin(site)
        self.found = self.walk.found
        # For each site those behind it, and how many of these, the first ones, must have lower ranks.
        self.nexts = []
        self.must = []
        while len(self.nexts) < len(self.found):
            self.look_behind(len(self.nexts))
        # The sites that have a rank, each behind those that must have lower ones, and the ranks; None without end.
        self.order = []
        self.ranks = [None] * len(self.found)
        self.rank_all()

    def look_behind(self, at):
        """Meet what is behind the site with this index."""
        moves = self.sites.leads_on(self.found[at])
        for step, there in moves:
            self.walk.meet(there, at, step)
        self.nexts.append([self.walk.number[there] for _, there in moves])
        self.must.append(1 if self.kind(at) == "draw" else len(moves))

    def kind(self, at):
        """The first word of the node of the site."""
        return self.sites.nodes[self.found[at][0]][0]

    def lower_ones(self, at):
        """The sites behind this one that must have lower ranks."""
        return self.nexts[at][:self.must[at]]

    def rank_all(self):
        """Find the ranks: one more than the greatest of those that must be lower, 0 if there is none."""
        left = list(self.must)
        higher = [[] for at in left]
        for at in range(len(left)):
            for there in self.lower_ones(at):
                higher[there].append(at)
        self.order.extend([at for at, many in enumerate(left) if many == 0])
        step = 0
        while step < len(self.order):
            at = self.order[step]
            self.ranks[at] = 1 + max([self.ranks[there] for there in self.lower_ones(at)], default=-1)
            for source in higher[at]:
                left[source] -= 1
                if left[source] == 0:
                    self.order.append(source)
            step += 1

    def first_false(self):
        """The index of the first false site, to which the fewest steps lead; None if there is none."""
        for at in range(len(self.found)):
            if self.kind(at) == "false":
                return at
        return None

    def first_endless(self):
        """The index of the first site from which a run need not end; None if there is none."""
        return self.ranks.index(None) if None in self.ranks else None

    def turn_from(self, at):
        """The list of the steps on which a run goes on from an endless site until it comes again, and where it does.

        Draws of more numbers are left out, and of the sites behind, endless ones are chosen.
        """
        number = {}
        steps = []
        while at not in number:
            number[at] = len(steps)
            choices = [there for there in self.lower_ones(at) if self.ranks[there] is None]
            steps.append(self.step_to(at, choices[0]))
            at = choices[0]
        return steps, number[at]

    def step_to(self, at, there):
        """The first step that leads from the site to another one."""
        return self.sites.leads_on(self.found[at])[self.nexts[at].index(there)][0]


def drawn_script(steps):
    """The script of the numbers that are drawn on the steps."""
    return bare(tuple(step for step in steps if isinstance(step, int)))
