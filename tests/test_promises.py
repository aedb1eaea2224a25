"""promises: which clauses laws ask [65]; wrongs: wrong programs that stand for all [66]; idles [67]; the example of [68]."""

import unittest
from itertools import product

from saidandasked.barring import law_clause
from saidandasked.chains import one_of
from saidandasked.errors import (BadDocument, BadGroup, BadIndex, BadLaws, OtherHouse, OverAsks, TooMany, Unsound)
from saidandasked.idles import idle_laws, law_cores
from saidandasked.lawmaking import law_of
from saidandasked.overs import over
from saidandasked.promises import asks, is_missed, missed
from saidandasked.verdicts import law_verdict
from saidandasked.wrongs import least_groups, mirror, silent_groups, stands_for_all
from tests import plain, samples
from tests.samples import COPIES, FREE_DOC, ODD, ONE, QUARREL_DOC, STORE_DOC, TAKES, TURNED, TWO, bent, one_place, ring
from tests.test_covers import document_of_clauses, strict
from tests.test_pools import narrower, sets

FREE = document_of_clauses(ONE)
# The second and third answer are the first one ([68]).
ALIKE = document_of_clauses(ONE, ("clause", "alike", ("s", "p", "q", "r", "t", "u"), (
    ("s", "c", (("x", "p"), ("y", "q"))), ("p", "c", (("x", "r"),)), ("q", "c", (("y", "t"),)),
    ("r", "c", (("x", "u"),)), ("t", "c", (("y", "u"),)))))
TWICE_LAW = ("law", ONE, 1, (("ask", 0, "c", (1, 2)), ("ask", 0, "c", (3, 4)), ("ask", 0, "c", (4, 3)),
                             ("true",), ("false",)))
THRICE_LAW = ("law", ONE, 1, (("ask", 0, "c", (1, 1)),) + tuple(
    node if node[0] != "ask" else node[:3] + (tuple(to + 1 for to in node[3]),) for node in TWICE_LAW[3]))


def less(document, at):
    """The document without the clause with this index."""
    return ("document", document[1], document[2][:at] + document[2][at + 1:])


def alone(document, at):
    return ("document", document[1], document[2][at:at + 1])


def with_laws(document, laws):
    """The document with the clauses of the laws, named anew."""
    clauses = tuple(law_clause(rule, "rule" + letter) for rule, letter in zip(laws, "abcdef"))
    return ("document", document[1], document[2] + clauses)


def fails(program, rule):
    return over(program, rule)[0] == "falls"


def is_wrong(document, at, program):
    return plain.right(less(document, at), program) and not plain.right(alone(document, at), program)


def history_law(house, history):
    """The law that asks the calls of a history and is false if all answers are as in it."""
    nodes = []
    many = len(history)
    for at, (call, answer) in enumerate(history):
        goal = at + 1 if at + 1 < many else many + 1
        nodes.append(("ask", 0, call, tuple(goal if told == answer else many for told in plain.answers_of(house, call))))
    return ("law", house, 1, tuple(nodes) + (("true",), ("false",)))


def cases(many, house=None):
    """Sound documents with clauses, an index, and laws that no right program fails."""
    for seed in range(many):
        draw = samples.random.Random(seed)
        at_house = house or (ONE, TWO)[seed % 2]
        document = strict(seed, at_house, 1 + seed % 3, 1 + (seed % 5 == 0))
        if not plain.sound(document):
            continue
        barred = [history for history in plain.histories(at_house, 3)[1:] if not plain.let(document, history)
                  and plain.let(document, history[:-1])]
        if not barred and seed % 6:
            continue
        draw.shuffle(barred)
        laws = [history_law(at_house, history) for history in barred[:draw.randint(0, 4)]]
        # All histories that break it so soon, in two laws.
        for part in (barred[::2], barred[1::2]):
            if part and len(part) <= 6:
                laws.append(one_of([history_law(at_house, history) for history in part]))
        for number in range(2):
            rule = samples.drawn_law(seed * 40 + number, at_house, 1, 2 + (seed + number) % 5)
            if law_verdict(document, rule)[0] != "falls" and rule[3][0][0] not in ("true", "false"):
                laws.append(rule)
        if draw.random() < 0.2:
            # The clause itself, as a law.
            laws.append(law_of(at_house, draw.choice(document[2])))
        draw.shuffle(laws)
        if laws:
            yield document, seed % len(document[2]), laws[:1 + seed % 5]


def first_word(document, at, laws):
    """The first word on which a wrong program that fails no law breaks the clause, of at most 4 calls."""
    joint, clause = with_laws(less(document, at), laws), alone(document, at)
    for word in plain.words(document[1], 4)[1:]:
        for told in product(*[plain.answers_of(document[1], call) for call in word]):
            history = tuple(zip(word, told))
            if not plain.let(clause, history) and plain.sound(joint) and plain.held(joint, history):
                return word
    return None


class Promises(unittest.TestCase):
    def test_asks_and_missed(self):
        seen = {}
        for document, at, laws in cases(400):
            told = missed(document, at, laws)
            joint = with_laws(less(document, at), laws)
            asked = narrower(joint, alone(document, at))
            self.assertEqual(told is None, asked)
            self.assertIs(asks(document, at, laws, tuple(range(len(laws)))), asked)
            for group in sets(len(laws)):
                part = with_laws(less(document, at), [laws[number] for number in group])
                self.assertEqual(asks(document, at, laws, group), narrower(part, alone(document, at)))
            self.assertEqual(asks(document, at, tuple(laws), ()), asks(document, at, laws, ()))
            if told is not None:
                program, word = told
                self.assertTrue(is_wrong(document, at, program))
                self.assertFalse(any(fails(program, rule) for rule in laws))
                self.assertFalse(plain.let(alone(document, at), plain.told_history(program, word)))
                self.assertIs(is_missed(document, at, laws, told), True)
                expect = first_word(document, at, laws)
                self.assertEqual(word, expect if len(word) <= 4 else word)
                self.assertFalse(len(word) > 4 and expect is not None)
            seen[told is None] = seen.get(told is None, 0) + 1
        self.assertGreater(min(seen.values()), 30, seen)

    def test_programs(self):
        # If all laws ask the clause, each wrong program fails one of them.
        for document, at, laws in cases(80, ONE):
            told = missed(document, at, laws)
            for program in list(plain.programs(ONE, 3))[::5]:
                if is_wrong(document, at, program) and not any(fails(program, rule) for rule in laws):
                    self.assertIsNotNone(told)
                    for word in plain.words(ONE, 4):
                        thing = (program, word)
                        broken = not plain.let(alone(document, at), plain.told_history(program, word))
                        self.assertIs(is_missed(document, at, laws, thing), broken)

    def test_first_word_not_first_history(self):
        # Behind (c, x) only d breaks it, behind (c, y) already c: the first word is the one of (c, y).
        clause = ("clause", "k", ("p", "q", "r"), (("p", "c", (("x", "q"), ("y", "r"))), ("q", "d", ()), ("r", "c", ()),
                                                   ("r", "d", (("x", "r"),))))
        sound = ("clause", "k", ("p", "q", "r"), (("p", "c", (("x", "q"), ("y", "r"))), ("q", "d", (("x", "q"),)),
                                                  ("r", "c", (("x", "r"),)), ("r", "d", (("x", "r"),))))
        self.assertTrue(plain.clause_form(TWO, clause))
        rule = ("law", TWO, 1, (("true",),))
        told = missed(document_of_clauses(TWO, sound), 0, [rule])
        self.assertEqual(told[1], ("c", "c"))
        self.assertEqual(first_word(document_of_clauses(TWO, sound), 0, [rule]), ("c", "c"))

    def test_kept_together(self):
        # Each law alone lets a wrong program by; what keeps both of them cannot be.
        document = document_of_clauses(ONE, ("clause", "k", ("p", "q"), (("p", "c", (("x", "q"),)),)))
        first = ("law", ONE, 1, (("ask", 0, "c", (2, 1)), ("ask", 0, "c", (2, 3)), ("true",), ("false",)))
        second = ("law", ONE, 1, (("ask", 0, "c", (2, 1)), ("ask", 0, "c", (3, 2)), ("true",), ("false",)))
        self.assertEqual(least_groups(document, 0, [first, second]), [(0, 1)])
        self.assertEqual(silent_groups(document, 0, [first, second]), [(0,), (1,)])
        self.assertIsNone(missed(document, 0, [first, second]))
        for rule in (first, second):
            self.assertIsNotNone(missed(document, 0, [rule]))

    def test_endless_laws(self):
        # A run without end tells nothing: no program fails such a law.
        document = document_of_clauses(ONE, one_place("k", "c", "x"))
        endless = ("law", ONE, 1, (("ask", 0, "c", (0, 0)),))
        self.assertEqual(missed(document, 0, [endless])[1], ("c",))
        again = ("law", ONE, 1, (("ask", 0, "c", (0, 1)), ("false",)))
        self.assertIsNone(missed(document, 0, [again]))
        self.assertEqual(least_groups(document, 0, [endless, again]), [(1,)])

    def test_missed_papers(self):
        count = 0
        for document, at, laws in cases(110):
            told = missed(document, at, laws)
            if told is None or len(told[0][2]) > 3:
                continue
            count += 1
            for thing in list(bent(told))[::2] + ODD + [told + told, told[::-1]]:
                self.assertIs(is_missed(document, at, laws, thing), self.missed_form(document, at, laws, thing), thing)
        self.assertGreater(count, 5)

    def missed_form(self, document, at, laws, thing):
        if not isinstance(thing, tuple) or len(thing) != 2 or not plain.program_form(thing[0]):
            return False
        if thing[0][1] != document[1] or not is_wrong(document, at, thing[0]):
            return False
        if any(fails(thing[0], rule) for rule in laws) or not isinstance(thing[1], tuple):
            return False
        if not all(isinstance(call, str) and call in plain.calls(document[1]) for call in thing[1]):
            return False
        return not plain.let(alone(document, at), plain.told_history(thing[0], thing[1]))

    def test_great_laws(self):
        # The clause of a law may have more places than a clause has.
        nodes = tuple(("ask", 0, "c", (at + 1,) * 2) for at in range(200))
        late = ("law", ONE, 1, nodes + (("ask", 0, "c", (201, 202)), ("true",), ("false",)))
        document = document_of_clauses(ONE, one_place("k", "c", "x"))
        self.assertEqual(missed(document, 0, [late])[1], ("c",))
        with self.assertRaises(TooMany):
            law_clause(late, "k")
        self.assertEqual(idle_laws([late, late]), (0, 1))
        self.assertEqual(law_cores([late, late]), [(0,), (1,)])

    def test_errors(self):
        document = document_of_clauses(ONE, one_place("k", "c", "x"))
        good = ("law", ONE, 1, (("true",),))
        over_asking = ("law", ONE, 1, (("ask", 0, "c", (1, 2)), ("false",), ("true",)))
        functions = ((missed, ()), (is_missed, (None,)), (asks, (None,)), (silent_groups, ()), (least_groups, ()),
                     (mirror, ()), (stands_for_all, (None,)))
        for asking, rest in functions:
            for thing in ODD:
                if not plain.document_form(thing):
                    with self.assertRaises(BadDocument):
                        asking(thing, None, None, *rest)
                if not (plain.number(thing) and thing == 0):
                    for other in (document, QUARREL_DOC):
                        with self.assertRaises(BadIndex):
                            asking(document, thing, None, *rest)
                if not isinstance(thing, (list, tuple)) or not 1 <= len(thing) <= 6:
                    with self.assertRaises(BadLaws) as caught:
                        asking(document, 0, thing, *rest)
                    self.assertIsNone(caught.exception.at)
                with self.assertRaises(BadLaws) as caught:
                    asking(document, 0, [good, over_asking, thing, None], *rest)
                self.assertEqual(caught.exception.at, 2)
            for wrong in (COPIES, TAKES, ("law", ONE, 2, (("true",),)), ("law", TURNED, 1, (("true",),))):
                for other in (document, QUARREL_DOC):
                    with self.assertRaises(BadLaws) as caught:
                        asking(other, 0, (good, wrong), *rest)
                    self.assertEqual(caught.exception.at, 1)
            for laws in ([good] * 7, [], ()):
                with self.assertRaises(BadLaws) as caught:
                    asking(document, 0, laws, *rest)
                self.assertIsNone(caught.exception.at)
            group = ((0,),) if asking is asks else rest
            with self.assertRaises(Unsound):
                asking(QUARREL_DOC, 2, [over_asking], *group)
            with self.assertRaises(OverAsks) as caught:
                asking(document, 0, [good, over_asking, over_asking], *group)
            self.assertEqual(caught.exception.at, 1)
            with self.assertRaises(BadIndex):
                asking(FREE_DOC, 0, [good], *rest)
        for group in ODD + [(0, 0), (1, 0), (2,), (True,), [0]]:
            if group not in ((), (1,)) or not isinstance(group, tuple):
                for told in (document, QUARREL_DOC):
                    with self.assertRaises(BadGroup):
                        asks(told, 0, [good, over_asking], group)
        self.assertFalse(asks(group=(0,), laws=[good], at=0, document=document))
        self.assertEqual(missed(laws=[good], at=0, document=document)[1], ("c",))
        self.assertFalse(is_missed(thing=None, laws=[good], at=0, document=document))
        self.assertEqual(silent_groups(laws=[good], at=0, document=document), [(0,)])
        self.assertEqual(least_groups(laws=[good], at=0, document=document), [])
        self.assertEqual(len(mirror(laws=[good], at=0, document=document)), 1)
        self.assertFalse(stands_for_all(thing=[], laws=[good], at=0, document=document))


def tells_all(document, at, laws, programs, asking):
    """Whether the programs tell of each group whether it asks."""
    failed = [[fails(program, rule) for rule in laws] for program in programs]
    return all(all(any(row[number] for number in group) for row in failed) == asking[group] for group in asking)


class Wrongs(unittest.TestCase):
    def test_all(self):
        seen = {}
        for document, at, laws in cases(400):
            asking = {group: asks(document, at, laws, group) for group in sets(len(laws))}
            silent = [group for group in asking if not asking[group]]
            greatest = sorted(group for group in silent if not any(set(group) < set(other) for other in silent))
            asked = [group for group in asking if asking[group]]
            least = sorted(group for group in asked if not any(set(other) < set(group) for other in asked))
            self.assertEqual(silent_groups(document, at, laws), greatest)
            self.assertEqual(least_groups(document, at, laws), least)
            programs = mirror(document, at, laws)
            self.assertIs(type(programs), list)
            self.assertEqual(len(programs), len(greatest))
            for group, program in zip(greatest, programs):
                self.assertTrue(is_wrong(document, at, program))
                self.assertEqual([number for number, rule in enumerate(laws) if not fails(program, rule)], list(group))
            self.assertTrue(tells_all(document, at, laws, programs, asking))
            self.assertIs(stands_for_all(document, at, laws, programs), True)
            self.assertTrue(stands_for_all(document, at, laws, tuple(programs) * 2))
            for number in range(len(programs)):
                self.assertFalse(stands_for_all(document, at, laws, programs[:number] + programs[number + 1:]))
            self.outside(laws, least, greatest)
            seen[len(greatest), len(least)] = seen.get((len(greatest), len(least)), 0) + 1
        self.assertGreater(len(seen), 4, seen)

    def outside(self, laws, least, greatest):
        """The least groups that ask are the least ones with a law outside each greatest silent one."""
        good = [group for group in sets(len(laws)) if all(set(group) - set(silent) for silent in greatest)]
        expect = sorted(group for group in good if not any(set(other) < set(group) for other in good))
        self.assertEqual(least, expect)

    def test_by_hand(self):
        laws = [TWICE_LAW, THRICE_LAW]
        clause = law_clause(TWICE_LAW, "rule")
        self.assertEqual((len(clause[2]), len(clause[3])), (4, 3))
        self.assertEqual(silent_groups(ALIKE, 0, laws), [(0,), (1,)])
        self.assertEqual(least_groups(ALIKE, 0, laws), [(0, 1)])
        one = ("program", ONE, ((("x", 1),), (("x", 2),), (("y", 2),)))
        two = ("program", ONE, ((("x", 1),), (("y", 1),)))
        self.assertTrue(stands_for_all(ALIKE, 0, laws, [one, two]))
        self.assertTrue(stands_for_all(ALIKE, 0, laws, [two, one, one]))
        for programs in ([one], [two], [], [one, two, ring(ONE, 1, ())], [one, None], None, {0: one, 1: two}):
            self.assertFalse(stands_for_all(ALIKE, 0, laws, programs))
        told = missed(ALIKE, 0, [TWICE_LAW])
        self.assertEqual(told[1], ("c", "c", "c"))
        self.assertIn(plain.trace(told[0], told[1])[0], (("x", "x", "y"), ("y", "y", "x")))
        self.assertIsNone(missed(ALIKE, 0, laws))

    def test_no_wrong_programs(self):
        # The other clauses alone force the clause.
        document = document_of_clauses(ONE, one_place("k", "c", "x"), one_place("l", "c", "x"))
        rule = ("law", ONE, 1, (("true",),))
        self.assertEqual(least_groups(document, 0, [rule]), [()])
        self.assertEqual((silent_groups(document, 0, [rule]), mirror(document, 0, [rule])), ([], []))
        self.assertTrue(stands_for_all(document, 0, [rule], []))
        self.assertTrue(stands_for_all(document, 0, [rule], ()))
        # All laws together are silent.
        document = document_of_clauses(ONE, one_place("k", "c", "x"))
        self.assertEqual(least_groups(document, 0, [rule, rule]), [])
        self.assertEqual(silent_groups(document, 0, [rule, rule]), [(0, 1)])
        self.assertFalse(stands_for_all(document, 0, [rule], []))

    def test_bent(self):
        laws = [TWICE_LAW, THRICE_LAW]
        programs = tuple(mirror(ALIKE, 0, laws))
        asking = {group: asks(ALIKE, 0, laws, group) for group in sets(2)}
        for thing in list(bent(programs))[::3] + ODD:
            good = isinstance(thing, (list, tuple)) and all(
                plain.program_form(program) and program[1] == ONE and is_wrong(ALIKE, 0, program) for program in thing)
            good = good and tells_all(ALIKE, 0, laws, thing, asking)
            self.assertIs(stands_for_all(ALIKE, 0, laws, thing), good, thing)

    def test_six_laws(self):
        # Law k is false for y as the answer number k + 1: each asks for its own part alone.
        def late(many):
            nodes = tuple(("ask", 0, "c", (at + 1,) * 2) for at in range(many))
            return ("law", ONE, 1, nodes + (("ask", 0, "c", (many + 1, many + 2)), ("true",), ("false",)))
        places = tuple(samples.free(7))
        rows = tuple((place, "c", (("x", places[at + 1]),)) for at, place in enumerate(places[:6]))
        document = document_of_clauses(ONE, ("clause", "k", places, rows))
        laws = [late(at) for at in range(6)]
        every = (0, 1, 2, 3, 4, 5)
        self.assertEqual(least_groups(document, 0, laws), [every])
        told = silent_groups(document, 0, laws)
        self.assertEqual(told, [tuple(at for at in every if at != out) for out in reversed(every)])
        self.assertTrue(stands_for_all(document, 0, laws, mirror(document, 0, laws)))
        self.assertEqual((idle_laws(laws), law_cores(laws)), ((), [every]))


class Idles(unittest.TestCase):
    def test_all(self):
        seen = {}
        for seed in range(200):
            house = (ONE, TWO)[seed % 2]
            laws = [samples.drawn_law(seed * 7 + at, house, 1, 1 + (seed + at) % 6) for at in range(1 + seed % 4)]
            free = document_of_clauses(house)
            every = with_laws(free, laws)
            out = tuple(at for at in range(len(laws))
                        if narrower(with_laws(free, laws[:at] + laws[at + 1:]), with_laws(free, [laws[at]])))
            self.assertEqual(idle_laws(laws), out)
            good = [group for group in sets(len(laws)) if narrower(with_laws(free, [laws[at] for at in group]), every)]
            cores = law_cores(laws)
            self.assertEqual(cores, sorted(g for g in good if not any(set(other) < set(g) for other in good)))
            for at in range(len(laws)):
                self.assertEqual(all(at in group for group in cores), at not in out)
            for program in list(plain.programs(house, 2))[::17]:
                failed = [at for at, rule in enumerate(laws) if fails(program, rule)]
                self.assertFalse(len(failed) == 1 and failed[0] in out)
                self.assertTrue(all(not failed or set(failed) & set(group) for group in cores))
            seen[len(cores), len(out)] = seen.get((len(cores), len(out)), 0) + 1
        self.assertGreater(len(seen), 5, seen)

    def test_by_hand(self):
        true = ("law", ONE, 1, (("true",),))
        self.assertEqual((idle_laws([true]), law_cores([true])), ((0,), [()]))
        self.assertEqual((idle_laws([TWICE_LAW]), law_cores([TWICE_LAW])), ((), [(0,)]))
        # Two idle laws of which not both can go.
        self.assertEqual(idle_laws((TWICE_LAW, TWICE_LAW)), (0, 1))
        self.assertEqual(law_cores((TWICE_LAW, TWICE_LAW)), [(0,), (1,)])
        # What no program can keep, is kept by none.
        x, y = [("law", ONE, 1, (("ask", 0, "c", nexts), ("true",), ("false",))) for nexts in ((1, 2), (2, 1))]
        self.assertEqual(law_cores([x, y, TWICE_LAW]), [(0, 1)])
        self.assertEqual(idle_laws([x, y, TWICE_LAW]), (2,))

    def test_errors(self):
        good = ("law", ONE, 1, (("true",),))
        for asking in (idle_laws, law_cores):
            for thing in ODD:
                if not isinstance(thing, (list, tuple)) or not 1 <= len(thing) <= 6:
                    with self.assertRaises(BadLaws) as caught:
                        asking(thing)
                    self.assertIsNone(caught.exception.at)
                with self.assertRaises(BadLaws) as caught:
                    asking([good, ("law", TWO, 1, (("true",),)), thing])
                self.assertEqual(caught.exception.at, 2)
            for laws, at in (([good] * 7, None), ([], None), ((), None), ([COPIES], 0), ([good, COPIES, None], 1)):
                with self.assertRaises(BadLaws) as caught:
                    asking(laws)
                self.assertEqual(caught.exception.at, at)
            with self.assertRaises(OtherHouse):
                asking([good, ("law", TWO, 1, (("true",),))])
            self.assertIsNotNone(asking(laws=[good]))
        self.assertTrue(plain.sound(STORE_DOC) and plain.sound(FREE))


if __name__ == "__main__":
    unittest.main()
