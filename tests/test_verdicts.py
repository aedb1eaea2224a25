"""verdicts: laws over documents [42] to [44]; durations [45]; chains [46]; the examples of [47]."""

import unittest
from functools import lru_cache
from itertools import product

from saidandasked.chains import ends, one_of, then, true_from
from saidandasked.durations import most_steps
from saidandasked.errors import BadDocument, BadLaw, BadLaws, BadMany, BadStand, NotTrue, OtherHouse
from saidandasked.makers import clause_of, made
from saidandasked.narrow import apart
from saidandasked.overs import over
from saidandasked.papers import ranked_list
from saidandasked.ranks import safe
from saidandasked.runs import asked, run
from saidandasked.verdicts import is_law_verdict, law_verdict
from tests import plain, samples
from tests.samples import (COPIES, ENDLESS, FREE_DOC, MADE, ODD, ONCE_DOC, ONE, QUARREL_DOC, STORE, STORE_DOC, TAKES,
                           TURNED, TWICE_DOC, TWO, bent, ring)

EMPTY, SOME, EITHER = (("empty",),), (("some",),), (("empty", "some"),)


def word_key(house, word):
    return len(word), [plain.calls(house).index(call) for call in word]


def first_site(document, rule):
    if rule[2] == 1:
        return (0, plain.first_stand(document))
    return (0, (((),) * rule[2], ()))


@lru_cache(maxsize=100000)
def safe_stand(document, stand):
    return () not in stand and plain.ranks(document, stand)[stand] is None


def behind(document, rule, site):
    """The sites behind a site by the words of [42], each with the step to it."""
    node, here = rule[3][site[0]], site[1]
    house = document[1]
    if node[0] == "draw":
        return [(at, (to, here)) for at, to in enumerate(node[1])]
    if node[0] == "copy":
        words = list(here[0])
        words[node[1]] = words[node[2]]
        return [(None, (node[3], (tuple(words), here[1])))]
    if node[0] != "ask":
        return []
    found = []
    answers = plain.answers_of(house, node[2])
    if rule[2] == 1:
        for answer, there in zip(answers, node[3]):
            stand = plain.stand_after(document, here, node[2], answer)
            if safe_stand(document, stand):
                found.append(((node[2], answer), (there, stand)))
        return found
    words, kept = list(here[0]), dict(here[1])
    word = words[node[1]]
    words[node[1]] = word + (node[2],)
    told = tuple((word[many - 1], kept[word[:many]]) for many in range(1, len(word) + 1))
    for answer, there in zip(answers, node[3]):
        new = dict(kept)
        if new.setdefault(words[node[1]], answer) != answer:
            continue
        if words[node[1]] in kept or plain.held(document, told + ((node[2], answer),)):
            rows = tuple(sorted(new.items(), key=lambda row: word_key(house, row[0])))
            found.append(((node[2], answer), (there, (tuple(words), rows))))
    return found


def coming(document, rule, first=None):
    """All sites that come, with the fewest steps to each and those behind."""
    first = first_site(document, rule) if first is None else first
    steps = {first: 0}
    there = {}
    queue = [first]
    for site in queue:
        there[site] = [next_site for _, next_site in behind(document, rule, site)]
        for next_site in there[site]:
            if next_site not in steps:
                steps[next_site] = steps[site] + 1
                queue.append(next_site)
    return steps, there


def must(rule, site, there):
    return there[site][:1] if rule[3][site[0]][0] == "draw" else there[site]


def ranks(rule, there):
    """The ranks of the least table; sites without end have none."""
    known = {}
    grown = True
    while grown:
        grown = False
        for site in there:
            if site not in known and all(s in known for s in must(rule, site, there)):
                known[site] = max([known[s] + 1 for s in must(rule, site, there)], default=0)
                grown = True
    return known


def stand_key(document, stand):
    return [[clause[2].index(place) for place in lot] for clause, lot in zip(document[2], stand)]


def triple_key(document, rule, row):
    if rule[2] == 1:
        return row[0], stand_key(document, row[1])
    house = document[1]
    kept = [(word_key(house, word), plain.answers_of(house, word[-1]).index(answer)) for word, answer in row[1][1]]
    return row[0], [word_key(house, word) for word in row[1][0]], kept


def site_form(document, rule, at):
    """Whether any value is what a site has besides its node."""
    if rule[2] == 1:
        return isinstance(at, tuple) and len(at) == len(document[2]) and all(
            isinstance(lot, tuple) and all(isinstance(place, str) and place in clause[2] for place in lot)
            and plain.ascending([clause[2].index(place) for place in lot])
            for clause, lot in zip(document[2], at)) and safe_stand(document, at)
    house = document[1]
    if not isinstance(at, tuple) or len(at) != 2 or not all(isinstance(part, tuple) for part in at):
        return False

    def word_form(word):
        return isinstance(word, tuple) and all(isinstance(c, str) and c in plain.calls(house) for c in word)
    words, kept = at
    if len(words) != rule[2] or not all(word_form(word) for word in words):
        return False
    for row in kept:
        if not isinstance(row, tuple) or len(row) != 2 or not word_form(row[0]) or not row[0]:
            return False
        if not isinstance(row[1], str) or row[1] not in plain.answers_of(house, row[0][-1]):
            return False
    known = dict(kept)
    if len(known) != len(kept):
        return False
    if sorted(known, key=lambda word: word_key(house, word)) != [word for word, _ in kept]:
        return False
    if not all(word[:many] in known for word in list(known) + list(words) for many in range(1, len(word) + 1)):
        return False
    return all(plain.held(document, tuple((word[many], known[word[:many + 1]]) for many in range(len(word))))
               for word in known)


def table_form(document, rule, thing):
    """Whether any value is a table, by its words."""
    if not isinstance(thing, tuple):
        return False
    told = {}
    for row in thing:
        if not isinstance(row, tuple) or len(row) != 3 or not plain.number(row[0]) or not plain.number(row[2]):
            return False
        if not 0 <= row[0] < len(rule[3]) or row[2] < 0 or rule[3][row[0]] == ("false",):
            return False
        if not site_form(document, rule, row[1]) or row[:2] in told:
            return False
        told[row[:2]] = row[2]
    if first_site(document, rule) not in told:
        return False
    for site, rank in told.items():
        there = {site: [s for _, s in behind(document, rule, site)]}
        if any(s not in told for s in there[site]) or any(told[s] >= rank for s in must(rule, site, there)):
            return False
    return True


def cases(many, first=0):
    for seed in range(first, first + many):
        house = (ONE, TWO, STORE, None)[seed % 4]
        document = samples.drawn_document(seed, house, 2)
        yield document, samples.drawn_law(seed, document[1], 1 + (seed % 5 > 2) + (seed % 5 > 3), 1 + seed % 7)


def small_programs(document, most=2):
    return [program for program in plain.programs(document[1], most) if plain.right(document, program)]


class Verdicts(unittest.TestCase):
    def check(self, document, rule):
        told = law_verdict(document, rule)
        self.assertIs(is_law_verdict(document, rule, told), True)
        if not plain.sound(document):
            self.assertEqual(told, ("empty", ranked_list(document)))
            return "empty"
        steps, there = coming(document, rule)
        falls = [steps[site] for site in steps if rule[3][site[0]] == ("false",)]
        known = ranks(rule, there)
        if falls:
            self.assertEqual((told[0], len(told)), ("falls", 3))
            self.assertEqual(run(told[1], rule, told[2]), ("false", min(falls)))
        elif len(known) < len(there):
            self.assertEqual((told[0], len(told)), ("never", 3))
            self.assertEqual(run(told[1], rule, told[2])[0], "never")
        else:
            rows = sorted([site + (known[site],) for site in there], key=lambda row: triple_key(document, rule, row))
            self.assertEqual(told, ("true", tuple(rows)))
            self.assertTrue(table_form(document, rule, told[1]))
            return "true"
        self.assertTrue(plain.right(document, told[1]))
        asks = len(asked(told[1], rule, told[2]))
        self.assertLessEqual(len(told[1][2]), asks + len(safe(document)))
        return told[0]

    def test_by_hand(self):
        self.assertEqual(law_verdict(STORE_DOC, TAKES), ("true", ((0, EMPTY, 2), (1, SOME, 1), (2, EITHER, 0))))
        more = TAKES[:3] + (TAKES[3][:2] + (("ask", 0, "take", (4, 3)), ("false",), ("true",)),)
        told = law_verdict(STORE_DOC, more)
        self.assertEqual(told[0], "falls")
        self.assertEqual(run(told[1], more, told[2]), ("false", 3))
        self.assertEqual(self.check(STORE_DOC, ENDLESS), "never")
        self.assertEqual(run(made(STORE_DOC), ENDLESS, ()), ("never", 0, 1))
        self.assertEqual(self.check(STORE_DOC, COPIES), "true")
        self.assertEqual(len(law_verdict(STORE_DOC, COPIES)[1]), 8)
        self.assertEqual(self.check(QUARREL_DOC, ("law", ONE, 1, (("false",),))), "empty")

    def test_all(self):
        seen = {}
        for document, rule in cases(900):
            word = self.check(document, rule)
            seen[word, rule[2]] = seen.get((word, rule[2]), 0) + 1
        # Laws of several objects always end.
        self.assertEqual(len(seen), 10, seen)
        self.assertTrue(min(seen.values()) > 8, seen)

    def test_small_documents(self):
        for at, document in enumerate(samples.small_documents()):
            for seed in range(2):
                self.check(document, samples.drawn_law(2 * at + seed, ONE, 1 + at % 2, 2 + at % 5))

    def test_programs(self):
        # What is true over all right programs is so over those that are looked at; what falls, falls over none sooner.
        for document, rule in cases(150, 900):
            if not plain.sound(document) or len(document[1][1]) > 2:
                continue
            told = law_verdict(document, rule)
            for program in small_programs(document)[:60]:
                word = over(program, rule)
                if told[0] == "true" or word[0] == "falls":
                    self.assertEqual(told[0], word[0])
                if word[0] == "falls":
                    self.assertLessEqual(run(told[1], rule, told[2])[1], run(program, rule, word[1])[1])
                if word[0] == "never":
                    self.assertIn(told[0], ("falls", "never"))

    def test_one_program(self):
        for seed in range(120):
            house = (ONE, TWO, STORE)[seed % 3]
            program = samples.drawn_program(seed, house, 1 + seed % 4)
            document = ("document", house, (clause_of(program, "one"),))
            rule = samples.drawn_law(seed, house, 1 + seed % 3, 2 + seed % 6)
            self.assertEqual(over(program, rule)[0], law_verdict(document, rule)[0])

    def test_narrower(self):
        for seed in range(200):
            one, other = samples.drawn_document(seed, TWO, 2), samples.drawn_document(seed + 500, TWO, 1)
            rule = samples.drawn_law(seed, TWO, 1 + seed % 2, 5)
            joint = ("document", TWO, one[2] + tuple(("clause", "other" + c[1][1:], *c[2:]) for c in other[2]))
            if apart(joint, one) is None and law_verdict(one, rule)[0] == "true":
                self.assertIn(law_verdict(joint, rule)[0], ("true", "empty"))

    def test_six_draws(self):
        free = ("document", ONE, ())
        nodes = (("draw", (1, 2, 3, 0, 1, 4)), ("true",), ("draw", (1,)), ("ask", 0, "c", (1, 1)), ("false",))
        told = law_verdict(free, ("law", ONE, 1, nodes))
        self.assertEqual((told[0], told[2]), ("falls", (5,)))
        self.assertEqual(self.check(free, ("law", ONE, 1, nodes[:4] + (("true",),))), "true")
        self.assertEqual(self.check(free, ("law", ONE, 1, nodes[:4] + (("draw", (4,)),))), "never")
        self.assertEqual(most_steps(free, ("law", ONE, 1, nodes[:4] + (("true",),)), 40)[0], 41)

    def test_falls_ahead_of_never(self):
        # It falls over the program that answers y and never ends over the one that answers x.
        rule = ("law", ONE, 1, (("ask", 0, "c", (0, 1)), ("false",)))
        free = ("document", ONE, ())
        self.assertEqual(self.check(free, rule), "falls")
        self.assertEqual(over(ring(ONE, 1, ()), rule)[0], "never")
        self.assertEqual(self.check(("document", ONE, (samples.one_place("k", "c", "x"),)), rule), "never")
        # To go on again and again only by other draws than the first one is to end.
        self.assertEqual(self.check(free, ("law", ONE, 1, (("draw", (1, 0)), ("true",)))), "true")
        self.assertEqual(self.check(free, ("law", ONE, 1, (("draw", (0, 1)), ("true",)))), "never")
        self.assertEqual(self.check(free, ("law", ONE, 1, (("draw", (1, 2, 2)), ("true",), ("ask", 0, "c", (2, 1))))), "never")
        # A turn that must pass more than one stand.
        rule = ("law", ONE, 1, (("ask", 0, "c", (1, 1)), ("draw", (0, 2)), ("true",)))
        self.assertEqual(self.check(TWICE_DOC, rule), "never")
        rule = ("law", ONE, 1, (("ask", 0, "c", (1, 2)), ("ask", 0, "c", (2, 0)), ("true",)))
        self.assertEqual(self.check(TWICE_DOC, rule), "never")
        self.assertEqual(self.check(ONCE_DOC, rule), "true")

    def test_several_objects(self):
        # Objects of one program answer alike, over every sound document.
        same = ("law", TWO, 2, (("ask", 0, "c", (1, 2)), ("ask", 1, "c", (3, 4)), ("ask", 1, "c", (4, 3)),
                                ("true",), ("false",)))
        for seed in range(80):
            document = samples.drawn_document(seed, TWO, 2)
            self.assertEqual(self.check(document, same), "true" if plain.sound(document) else "empty")
        # What an object answered still binds when it has been copied over.
        rule = ("law", TWO, 3, (("ask", 0, "c", (1, 5)), ("copy", 0, 1, 2), ("ask", 2, "c", (3, 6)), ("copy", 1, 2, 4),
                                ("true",), ("true",), ("false",)))
        self.assertEqual(self.check(FREE_DOC, rule), "true")
        told = law_verdict(FREE_DOC, rule)[1]
        self.assertIn((4, (((), ("c",), ("c",)), ((("c",), "x"),)), 0), told)
        other = rule[:3] + (rule[3][:2] + (("ask", 2, "d", (3, 6)),) + rule[3][3:],)
        self.assertEqual(self.check(FREE_DOC, other), "falls")

    def test_order_of_kept(self):
        rule = ("law", TURNED, 2, (("ask", 0, "c", (1, 1)), ("ask", 1, "d", (2, 2)), ("ask", 1, "c", (3, 3)), ("true",)))
        told = law_verdict(("document", TURNED, ()), rule)[1]
        words = [word for word, _ in told[-1][1][1]]
        self.assertEqual(words, [("d",), ("c",), ("d", "c")])
        self.assertEqual(told[-1][1][0], (("c",), ("d", "c")))
        self.assertEqual([answers for _, answers in told[7][1][1]], ["x", "x", "x"])
        self.assertEqual([answers for _, answers in told[8][1][1]], ["x", "x", "y"])

    def test_many_sites(self):
        nodes = tuple(("ask", at % 2, "c", (at + 1,) * 2) for at in range(18)) + (("true",),)
        told = law_verdict(samples.plus_chain(20), ("law", ONE, 2, nodes))
        self.assertEqual((told[0], len(told[1])), ("true", 19))
        nodes = tuple(("ask", 0, "c", ((at + 1) % 250,) * 2) for at in range(250))
        told = law_verdict(samples.plus_chain(39), ("law", ONE, 1, nodes))
        self.assertEqual(told[0], "never")
        free = ("document", ONE, ())
        told = law_verdict(free, ("law", ONE, 3, (("copy", 0, 1, 1),) + tuple(
            ("ask", 1, "c", (at + 1,) * 2) for at in range(1, 9)) + (("true",),)))
        self.assertEqual(len(told[1]), 1 + 2 ** 9 - 1)

    def test_errors(self):
        other = ("law", TURNED, 1, (("true",),))
        for asking, rest in ((law_verdict, ()), (is_law_verdict, (None,)), (most_steps, (0,))):
            for thing in ODD + [TAKES]:
                for rule in (TAKES, None):
                    if not plain.document_form(thing):
                        with self.assertRaises(BadDocument):
                            asking(thing, rule, *rest)
            for thing in ODD + [STORE_DOC]:
                with self.assertRaises(BadLaw):
                    asking(QUARREL_DOC, thing, *rest)
            with self.assertRaises(OtherHouse):
                asking(FREE_DOC, other, *rest)
        self.assertEqual(law_verdict(rule=TAKES, document=STORE_DOC)[0], "true")
        self.assertFalse(is_law_verdict(thing=(), rule=TAKES, document=STORE_DOC))


class Papers(unittest.TestCase):
    def expect(self, document, rule, thing):
        """is_law_verdict, by its words."""
        if not isinstance(thing, tuple) or not thing or not isinstance(thing[0], str):
            return False
        if thing[0] == "empty" and len(thing) == 2:
            return not plain.sound(document) and isinstance(thing[1], tuple) and any(
                isinstance(row, tuple) and row[:1] == (plain.first_stand(document),) for row in thing[1]
            ) and self.ranked(document, thing[1])
        if not plain.sound(document):
            return False
        if thing[0] == "true" and len(thing) == 2:
            return table_form(document, rule, thing[1])
        if thing[0] not in ("falls", "never") or len(thing) != 3:
            return False
        if not plain.program_form(thing[1]) or thing[1][1] != document[1] or not plain.right(document, thing[1]):
            return False
        if not isinstance(thing[2], tuple) or not all(plain.number(part) for part in thing[2]):
            return False
        return run(thing[1], rule, thing[2])[0] == {"falls": "false", "never": "never"}[thing[0]]

    def ranked(self, document, rows):
        known = set()
        for row in rows:
            if not isinstance(row, tuple) or len(row) != 2 or not isinstance(row[1], str):
                return False
            stand, call = row
            if not isinstance(stand, tuple) or len(stand) != len(document[2]) or call not in plain.calls(document[1]):
                return False
            for clause, lot in zip(document[2], stand):
                if not isinstance(lot, tuple) or not lot or not all(isinstance(p, str) and p in clause[2] for p in lot):
                    return False
                if not plain.ascending([clause[2].index(place) for place in lot]):
                    return False
            there = [plain.stand_after(document, stand, call, a) for a in plain.answers_of(document[1], call)]
            if stand in known or not all(() in s or s in known for s in there):
                return False
            known.add(stand)
        return True

    def test_bent(self):
        falls = TAKES[:3] + (TAKES[3][:2] + (("ask", 0, "take", (4, 3)), ("false",), ("true",)),)
        unsound = ("document", ONE, QUARREL_DOC[2][:2])
        for document, rule in ((STORE_DOC, TAKES), (STORE_DOC, falls), (STORE_DOC, ENDLESS), (STORE_DOC, COPIES),
                               (unsound, ("law", ONE, 1, (("true",),)))):
            told = law_verdict(document, rule)
            for thing in [told] + list(bent(told)) + ODD:
                self.assertIs(is_law_verdict(document, rule, thing), self.expect(document, rule, thing), thing)
            for other in ("true", "falls", "never", "empty"):
                thing = (other,) + told[1:]
                self.assertIs(is_law_verdict(document, rule, thing), self.expect(document, rule, thing))

    def test_bent_tables(self):
        for document, rule in cases(120):
            told = law_verdict(document, rule)
            if told[0] != "true" or len(told[1]) > 40:
                continue
            table = told[1]
            things = [table[::-1], tuple(row[:2] + (row[2] * 3 + 1,) for row in table)]
            for at, row in enumerate(table):
                rest = table[:at], table[at + 1:]
                for new in ((), (row, row), (row, row[:2] + (9,)), (row[:2] + (row[2] - 1,),), (row[:2] + (row[2] + 1,),)):
                    things.append(rest[0] + tuple(new) + rest[1])
            for thing in things:
                self.assertIs(is_law_verdict(document, rule, ("true", thing)), table_form(document, rule, thing))

    def test_sites_that_do_not_come(self):
        rule = ("law", STORE, 1, TAKES[3] + (("ask", 0, "put", (2, 2)),))
        table = law_verdict(STORE_DOC, rule)[1]
        for node, stand, rank in product(range(5), (EMPTY, SOME, EITHER, ((),), (("some", "empty"),)), range(3)):
            thing = table + ((node, stand, rank),)
            self.assertIs(is_law_verdict(STORE_DOC, rule, ("true", thing)), table_form(STORE_DOC, rule, thing))
        # A stand that does not come must be safe all the same.
        document = ("document", ONE, (("clause", "k", ("p", "q", "r"), (("q", "c", ()), ("r", "c", (("x", "r"),)))),))
        rule = ("law", ONE, 1, (("true",),))
        for stand, good in (((("q",),), False), ((("r",),), True), ((("q", "r"),), True), (((),), False)):
            self.assertIs(is_law_verdict(document, rule, ("true", ((0, (("p",),), 0), (0, stand, 5)))), good)

    def test_other_kept(self):
        rule = ("law", ONE, 2, (("ask", 0, "c", (1, 1)), ("true",)))
        document = TWICE_DOC
        table = law_verdict(document, rule)[1]
        for words, kept in product(((("c",), ()), ((), ("c",)), (("c", "c"), ("c",)), ((), ()), (("d",), ())),
                                   ((), ((("c",), "x"),), ((("c",), "y"), (("c", "c"), "x")), ((("c", "c"), "x"),),
                                    ((("c",), "x"), (("c", "c"), "x")), ((("c", "c"), "x"), (("c",), "y")),
                                    ((("c",), "x"), (("c",), "y")), (((), "x"),), ((("c",), "z"),))):
            thing = table + ((1, (words, kept), 3),)
            self.assertIs(is_law_verdict(document, rule, ("true", thing)), table_form(document, rule, thing), thing)

    def test_programs_of_other_houses(self):
        rule = ("law", TWO, 1, (("false",),))
        self.assertTrue(is_law_verdict(FREE_DOC, rule, ("falls", ring(TWO, 1, ()), ())))
        self.assertFalse(is_law_verdict(FREE_DOC, rule, ("falls", ring(TURNED, 1, ()), ())))
        self.assertTrue(is_law_verdict(FREE_DOC, rule, ("falls", ring(TWO, 3, (1,)), (4, 5))))
        self.assertFalse(is_law_verdict(FREE_DOC, rule, ("never", ring(TWO, 1, ()), ())))


class Durations(unittest.TestCase):
    def longest(self, document, rule, many):
        """The most steps, by all ways through the sites."""
        known = {}

        def from_site(site, left):
            if (site, left) not in known:
                there = behind(document, rule, site)
                draw = rule[3][site[0]][0] == "draw"
                if draw and left == 0:
                    there = there[:1]
                after = left - 1 if draw and left else left
                known[(site, left)] = max([1 + from_site(s, after) for _, s in there], default=0)
            return known[(site, left)]
        return from_site(first_site(document, rule), many)

    def test_all(self):
        true = 0
        for document, rule in cases(500):
            told = law_verdict(document, rule)
            if told[0] != "true":
                with self.assertRaises(NotTrue) as caught:
                    most_steps(document, rule, 3)
                self.assertEqual(caught.exception.word, told[0])
                continue
            true += 1
            table = {row[:2]: row[2] for row in told[1]}
            before = 0
            for many in (0, 1, 2, 5, 40):
                steps, program, script = most_steps(document, rule, many)
                self.assertEqual(steps, self.longest(document, rule, many))
                self.assertTrue(plain.right(document, program))
                self.assertEqual(run(program, rule, script), ("true", steps))
                self.assertLessEqual(len(script), many)
                self.assertGreaterEqual(steps, before)
                self.assertLessEqual(steps, (many + 1) * max(table.values()))
                if many == 0:
                    self.assertEqual(steps, table[first_site(document, rule)])
                before = steps
        self.assertGreater(true, 100)

    def test_by_hand(self):
        free = ("document", ONE, ())
        rule = ("law", ONE, 1, (("draw", (1, 2)), ("true",), ("ask", 0, "c", (3, 0)), ("ask", 0, "c", (0, 0))))
        self.assertEqual([most_steps(free, rule, many)[0] for many in (0, 1, 2, 40)], [1, 4, 7, 121])
        self.assertEqual(most_steps(samples.plus_chain(2), rule, 40)[0], 1 + 3 + 39 * 2)
        self.assertEqual(most_steps(STORE_DOC, TAKES, 0)[0], 2)
        # A number that draws the first next is used up as well.
        rule = ("law", ONE, 1, (("draw", (1, 0)), ("draw", (2, 0)), ("true",)))
        self.assertEqual([most_steps(free, rule, many)[0] for many in (0, 1, 2, 3)], [2, 3, 4, 5])

    def test_errors(self):
        for thing in ODD + [41, -1]:
            if not (plain.number(thing) and 0 <= thing <= 40):
                with self.assertRaises(BadMany):
                    most_steps(STORE_DOC, TAKES, thing)
                with self.assertRaises(BadMany):
                    most_steps(QUARREL_DOC, ("law", TURNED, 1, (("true",),)), thing)
        with self.assertRaises(OtherHouse):
            most_steps(QUARREL_DOC, TAKES, 3)
        with self.assertRaises(NotTrue) as caught:
            most_steps(many=3, rule=("law", ONE, 1, (("true",),)), document=QUARREL_DOC)
        self.assertEqual(caught.exception.word, "empty")


def single_laws(many):
    return [samples.drawn_law(seed, TWO, 1, 1 + seed % 6) for seed in range(many)]


class Chains(unittest.TestCase):
    def test_one_of(self):
        laws = single_laws(40)
        for at in range(0, 36):
            told = laws[at:at + 1 + at % 6]
            rule = one_of(told)
            self.assertEqual(rule[:3], ("law", TWO, 1))
            starts = rule[3][0][1]
            self.assertEqual(rule[3][0][0], "draw")
            self.assertEqual(len(rule[3]), 1 + sum(len(one[3]) for one in told))
            for start, one in zip(starts, told):
                for number, node in enumerate(one[3]):
                    self.assertEqual(self.moved(node, start), rule[3][start + number])
            self.assertEqual(list(starts), [1 + sum(len(one[3]) for one in told[:at]) for at in range(len(told))])
            self.assertEqual(one_of(tuple(told)), rule)

    def moved(self, node, by):
        if node[0] in ("true", "false"):
            return node
        return node[:-1] + (tuple(to + by for to in node[-1]),)

    def test_then(self):
        laws = single_laws(30)
        for one, other in zip(laws, laws[7:]):
            rule = then(one, other)
            if one[3][0] == ("true",):
                self.assertEqual(rule, other)
                continue
            many = len(one[3])
            self.assertEqual(rule[3][many:], tuple(self.moved(node, many) for node in other[3]))
            for node, new in zip(one[3], rule[3]):
                if node[0] in ("true", "false"):
                    self.assertEqual(node, new)
                else:
                    self.assertEqual(node[:-1], new[:-1])
                    for to, goal in zip(node[-1], new[-1]):
                        self.assertEqual(goal, many if one[3][to] == ("true",) else to)

    def expect_ends(self, document, rule, stand):
        steps, _ = coming(document, rule, (0, stand))
        found = {site[1] for site in steps if rule[3][site[0]] == ("true",)}
        return tuple(sorted(found, key=lambda told: stand_key(document, told)))

    def is_true_from(self, document, rule, stand):
        steps, there = coming(document, rule, (0, stand))
        return len(ranks(rule, there)) == len(there) and not any(rule[3][s[0]] == ("false",) for s in steps)

    def test_true_from_and_ends(self):
        seen = {True: 0, False: 0}
        for seed in range(250):
            house = (ONE, TWO, STORE)[seed % 3]
            document = samples.drawn_document(seed, house, 2)
            rule = samples.drawn_law(seed, house, 1, 1 + seed % 7)
            told = true_from(document, rule)
            expect = tuple(stand for stand in safe(document) if self.is_true_from(document, rule, stand))
            self.assertEqual(told, expect)
            for stand in safe(document):
                seen[stand in told] += 1
                self.assertEqual(ends(document, rule, stand), self.expect_ends(document, rule, stand))
            if plain.sound(document):
                true = law_verdict(document, rule)[0] == "true"
                self.assertEqual(true, plain.first_stand(document) in told)
        self.assertTrue(min(seen.values()) > 50, seen)

    def test_heart(self):
        laws = single_laws(60)
        for seed in range(150):
            document = samples.drawn_document(seed, TWO, 2)
            one, other, third = laws[seed % 60], laws[(seed * 7 + 3) % 60], laws[(seed * 11 + 5) % 60]
            rule = then(one, other)
            known = [set(true_from(document, law)) for law in (one, other, third)]
            for stand in safe(document):
                out = ends(document, one, stand)
                good = stand in known[0] and all(self.is_true_from(document, other, there) for there in out)
                self.assertEqual(stand in true_from(document, rule), good)
                both = {there for here in out for there in ends(document, other, here)}
                self.assertEqual(set(ends(document, rule, stand)), both)
            self.assertEqual(set(true_from(document, one_of([one, other, third]))), set.intersection(*known))

    def test_stands_that_do_not_come(self):
        document = ("document", ONE, (("clause", "k", ("p", "q", "r"), (("q", "c", ()), ("r", "c", (("x", "p"),)))),))
        rule = ("law", ONE, 1, (("ask", 0, "c", (1, 1)), ("true",)))
        self.assertEqual(ends(document, rule, (("r",),)), ((("p",),),))
        self.assertEqual(ends(document, rule, (("p", "r"),)), ((("p",),),))
        for stand in ((("q",),), ((),), (("r", "p"),), ()):
            with self.assertRaises(BadStand):
                ends(document, rule, stand)
        # Also of a document that is not sound, stands may be safe.
        document = ("document", TWO, (("clause", "k", ("p", "q"), (("p", "c", (("x", "q"),)), ("p", "d", ()))),))
        rule = ("law", TWO, 1, (("ask", 0, "c", (1, 1)), ("true",)))
        self.assertEqual(true_from(document, rule), ((("q",),),))

    def test_errors(self):
        good = ("law", TWO, 1, (("true",),))
        two = ("law", TWO, 2, (("true",),))
        turned = ("law", TURNED, 1, (("true",),))
        for thing in ODD + [two]:
            with self.assertRaises(BadLaw):
                then(thing, None)
            with self.assertRaises(BadLaw):
                then(good, thing)
            with self.assertRaises(BadLaw):
                true_from(FREE_DOC, thing)
            with self.assertRaises(BadLaw):
                ends(FREE_DOC, thing, None)
            with self.assertRaises(BadLaws) as caught:
                one_of([good, good, thing, thing])
            self.assertEqual(caught.exception.at, 2)
            if not isinstance(thing, (list, tuple)) or not 1 <= len(thing) <= 6:
                with self.assertRaises(BadLaws) as caught:
                    one_of(thing)
                self.assertIsNone(caught.exception.at)
        for thing in ODD + [good]:
            if not plain.document_form(thing):
                with self.assertRaises(BadDocument):
                    true_from(thing, None)
                with self.assertRaises(BadDocument):
                    ends(thing, None, None)
        for thing in ([good] * 7, (), [], {0: good}):
            with self.assertRaises(BadLaws) as caught:
                one_of(thing)
            self.assertIsNone(caught.exception.at)
        for thing in ODD:
            if thing != ():
                with self.assertRaises(BadStand):
                    ends(FREE_DOC, turned, thing)
        for asking in (lambda: one_of([good, good, turned]), lambda: then(good, turned),
                       lambda: true_from(FREE_DOC, turned), lambda: ends(FREE_DOC, turned, ())):
            with self.assertRaises(OtherHouse):
                asking()
        self.assertEqual(one_of(laws=[good]), ("law", TWO, 1, (("draw", (1,)), ("true",))))
        self.assertEqual(then(other=good, one=good), good)
        self.assertEqual(true_from(rule=good, document=FREE_DOC), ((),))
        self.assertEqual(ends(stand=(), rule=good, document=FREE_DOC), ((),))
        self.assertTrue(plain.right(STORE_DOC, MADE))


if __name__ == "__main__":
    unittest.main()
