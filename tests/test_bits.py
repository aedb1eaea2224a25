"""bits: right programs packed and unpacked [121], [122]; foretold [123]; readers [124]; the example of [125]."""

import copy
import inspect
import random
import unittest
from functools import lru_cache
from itertools import combinations, product

from saidandasked.bits import filled, pack, unpack
from saidandasked.errors import (BadBit, BadBits, BadDocument, BadProgram, BadWord, Ended, NotDone, NotOrderly, NotRight,
                                 OtherHouse, Unsound)
from saidandasked.foretold import foretold
from saidandasked.makers import made
from saidandasked.meanings import document_of, meaning
from saidandasked.mending import mended
from saidandasked.normals import normal
from saidandasked.readers import Reader
from tests import plain, samples
from tests.samples import (FREE_DOC, MADE, ODD, ONE, QUARREL_DOC, STORE, STORE_DOC, TURNED, TWICE_DOC, TWO, WIDE, one_place,
                           ring)
from tests.test_covers import document_of_clauses
from tests.test_decided import documents, first_break_of
from tests.test_groups import RING

SMALL = samples.small_documents()
SOUND = [document for document in list(documents(60)) + SMALL[::23] + [TWICE_DOC, RING] if plain.sound(document)]
WORD = ("c", "c", "c")


def is_orderly(program):
    met = [0]
    for state in met:
        met += [to for to in dict.fromkeys(to for _, to in program[2][state]) if to not in met]
    return met == list(range(len(program[2])))


def orderly_programs(house, most):
    """All orderly programs of at most so many states, written entry by entry."""
    calls = house[1]

    def write(entries):
        many = max([to for _, to in entries], default=0) + 1
        if len(entries) == many * len(calls):
            rows = tuple(tuple(entries[at:at + len(calls)]) for at in range(0, len(entries), len(calls)))
            yield ("program", house, rows)
            return
        answers = calls[len(entries) % len(calls)][2]
        for answer in answers:
            for to in range(min(many + 1, most)):
                yield from write(entries + [(answer, to)])

    return list(write([]))


PROGRAMS = {ONE: orderly_programs(ONE, 6), TWO: orderly_programs(TWO, 2), RING[1]: orderly_programs(RING[1], 4)}


@lru_cache(maxsize=2000)
def right_programs(document):
    return [program for program in PROGRAMS.get(document[1], []) if plain.right(document, program)]


# Choices, by the words of the document.

@lru_cache(maxsize=20000)
def is_kept(document, first):
    """Whether a set of stands is kept together."""
    met = [first]
    after = {}
    for group in met:
        after[group] = {}
        for call, answer in plain.pairs(document[1]):
            there = frozenset(plain.stand_after(document, stand, call, answer) for stand in group)
            if not any(() in stand for stand in there):
                after[group][(call, answer)] = there
                if there not in met:
                    met.append(there)
    good = set(met)
    while True:
        left = {group for group in good if all(
            any(after[group].get((call, answer)) in good for answer in plain.answers_of(document[1], call))
            for call in plain.calls(document[1]))}
        if left == good:
            return first in good
        good = left


def deep_documents(house, many):
    """Sound documents with two stands that are not kept together, though no call breaks them at once."""
    seed = 0
    while many:
        seed += 1
        draw = random.Random(seed)
        places = tuple(samples.free(draw.randint(4, 6)))
        rows = []
        for place in places:
            for call in house[1]:
                told = draw.choice((("x", "y"), ("x", "y"), ("x",), ("y",)))
                rows.append((place, call[1], tuple((answer, draw.choice(places)) for answer in told)))
        document = document_of_clauses(house, ("clause", "deep", places, tuple(rows)))
        if plain.sound(document) and has_deep_pair(document):
            many -= 1
            yield document


def has_deep_pair(document):
    for pair in combinations(list(plain.coming(document)), 2):
        at_once = all(any(all(() not in plain.stand_after(document, stand, call, answer) for stand in pair)
                          for answer in plain.answers_of(document[1], call)) for call in plain.calls(document[1]))
        if at_once and not is_kept(document, frozenset(pair)):
            return True
    return False


def groups_of(document, entries):
    """For each state the stands with which it comes by these entries, None if one of them is broken."""
    calls = plain.calls(document[1])
    groups = {0: {plain.first_stand(document)}}
    queue = [(0, plain.first_stand(document))]
    for state, stand in queue:
        for at, call in enumerate(calls):
            if state * len(calls) + at < len(entries):
                answer, to = entries[state * len(calls) + at]
                there = plain.stand_after(document, stand, call, answer)
                if () in there:
                    return None
                if there not in groups.setdefault(to, set()):
                    groups[to].add(there)
                    queue.append((to, there))
    return groups


def is_open(document, entries):
    groups = groups_of(document, entries)
    if groups is None:
        return False
    calls = plain.calls(document[1])
    for state in groups:
        for at, call in enumerate(calls):
            if state * len(calls) + at >= len(entries):
                good = False
                for answer in plain.answers_of(document[1], call):
                    there = frozenset(plain.stand_after(document, stand, call, answer) for stand in groups[state])
                    good = good or (not any(() in stand for stand in there) and is_kept(document, there))
                if not good:
                    return False
    return True


@lru_cache(maxsize=100000)
def open_choices(document, entries):
    call = document[1][1][len(entries) % len(document[1][1])]
    met = max([to for _, to in entries], default=0) + 1
    choices = [(answer, to) for answer in call[2] for to in [met] + list(range(met))]
    return [choice for choice in choices if is_open(document, entries + (choice,))]


def code(number, many):
    """Short code among many, by its words."""
    b = 0
    while 2 ** (b + 1) <= many:
        b += 1
    u = 2 ** (b + 1) - many
    told = format(number, f"0{b}b") if number < u else format(number + u, f"0{b + 1}b")
    return [int(sign) for sign in told] if b or number >= u else []


def bits_of(document, program):
    entries, found = (), []
    for row in program[2]:
        for choice in row:
            choices = open_choices(document, entries)
            found += code(choices.index(choice), len(choices))
            entries += (choice,)
    return found


DEEP = {house: list(deep_documents(house, 14)) for house in (ONE, TWO)}
SOUND += DEEP[ONE][:8] + DEEP[TWO][:4]


def all_bits(most):
    return [list(bits) for many in range(most + 1) for bits in product((0, 1), repeat=many)]


class Codes(unittest.TestCase):
    def test_code(self):
        self.assertEqual([code(k, 3) for k in range(3)], [[0], [1, 0], [1, 1]])
        self.assertEqual([code(k, 4) for k in range(4)], [[0, 0], [0, 1], [1, 0], [1, 1]])
        self.assertEqual([code(k, 5) for k in range(5)], [[0, 0], [0, 1], [1, 0], [1, 1, 0], [1, 1, 1]])
        self.assertEqual(code(0, 1), [])
        self.assertEqual(open_choices(TWICE_DOC, ()), [("x", 1), ("y", 1), ("y", 0)])

    def test_many_choices(self):
        # Without clauses each entry has as many choices as answers times states: numbers that are no power of 2.
        for house in (ONE, WIDE, STORE):
            document = ("document", house, ())
            for seed in range(8):
                program = normal(samples.drawn_program(seed, house, 2 + seed))
                bits = []
                entries = ()
                for row in program[2]:
                    for call, (answer, to) in zip(house[1], row):
                        met = max([state for _, state in entries], default=0) + 1
                        choices = [(told, state) for told in call[2] for state in [met] + list(range(met))]
                        bits += code(choices.index((answer, to)), len(choices))
                        entries += ((answer, to),)
                self.assertEqual(pack(document, program), bits)
                self.assertEqual(unpack(document, bits), program)


class Bits(unittest.TestCase):
    def test_all(self):
        count = 0
        for number, document in enumerate(SOUND):
            for at, program in enumerate(right_programs(document)[number % 7::7][:30]):
                bits = pack(document, program)
                self.assertIs(type(bits), list)
                self.assertTrue(all(type(bit) is int for bit in bits))
                self.assertEqual(bits, bits_of(document, program))
                self.assertEqual(unpack(document, bits), program)
                self.assertEqual(unpack(document, tuple(bits)), program)
                count += 1
                if at % 5 == number % 5:
                    self.check_wrong(document, bits)
        self.assertGreater(count, 500)

    def check_wrong(self, document, bits):
        """Bits that end too early, go on behind the end, or are none."""
        for at in {0, len(bits) // 2, len(bits) - 1} if bits else ():
            self.check_at(unpack, document, bits[:at], at)
        for asking in (unpack, filled):
            for more in ([0], [1], [1, 1], [None], [2, 0]):
                self.check_at(asking, document, bits + more, len(bits))
            for at in range(0, len(bits), 4):
                for thing in (2, -1, True, False, None, "1", (0,)):
                    self.check_at(asking, document, bits[:at] + [thing] + bits[at + 1:] + [1] * 9, at)

    def check_at(self, asking, document, bits, at):
        with self.assertRaises(BadBits) as caught:
            asking(document, bits)
        self.assertEqual(caught.exception.at, at)

    def test_each_list(self):
        # Each list of bits begins with those of one program, or those of some begin with it, never both.
        for document in SOUND[::5] + [FREE_DOC, ("document", ONE, ()), RING, DEEP[ONE][0], DEEP[TWO][0]]:
            whole = {}
            for bits in all_bits(7):
                told = self.unpacked(document, bits)
                if told is not None:
                    self.assertTrue(plain.right(document, told) and is_orderly(told))
                    self.assertNotIn(told, whole.values())
                    self.assertEqual(pack(document, told), bits)
                    whole[tuple(bits)] = told
            for bits in all_bits(7):
                starts = [many for many in range(len(bits) + 1) if tuple(bits[:many]) in whole]
                self.assertLessEqual(len(starts), 1)
                if starts and starts[0] < len(bits):
                    with self.assertRaises(BadBits) as caught:
                        filled(document, bits)
                    self.assertEqual(caught.exception.at, starts[0])
                else:
                    full = filled(document, bits)
                    self.assertEqual(full[:len(bits)], bits)
                    self.assertEqual(set(full[len(bits):]) | {1}, {1})
                    program = unpack(document, full)
                    self.assertTrue(plain.right(document, program) and is_orderly(program))
                    self.assertEqual(pack(document, program), full)
            # And no program is left out.
            for program in right_programs(document):
                if len(pack(document, program)) <= 7:
                    self.assertIn(tuple(pack(document, program)), whole)

    def unpacked(self, document, bits):
        try:
            return unpack(document, bits)
        except BadBits:
            return None

    def test_open_choices(self):
        # A choice is open if some orderly right program has it there, and has what was written ahead of it.
        for document in [document for document in SOUND if document[1] == ONE][::2]:
            found = {}
            for program in right_programs(document):
                entries = tuple(row[0] for row in program[2])
                for many in range(min(3, len(entries))):
                    found.setdefault(entries[:many], set()).add(entries[many])
            for entries, choices in found.items():
                if len(entries) < 3:
                    self.assertLessEqual(choices, set(open_choices(document, entries)))
                    if len(plain.coming(document)) < 4:
                        self.assertEqual(choices, set(open_choices(document, entries)))

    def test_by_hand(self):
        self.assertEqual(pack(TWICE_DOC, ("program", ONE, ((("x", 1),), (("y", 0),)))), [0, 1, 0])
        self.assertEqual(pack(TWICE_DOC, ring(ONE, 1, (0,))), [1, 1])
        self.assertEqual(unpack(TWICE_DOC, [1, 1]), ring(ONE, 1, (0,)))
        self.assertEqual(filled(TWICE_DOC, []), [1, 1])
        self.assertEqual(filled(TWICE_DOC, [0]), [0, 1, 1])
        self.assertEqual(filled(TWICE_DOC, ()), [1, 1])

    def test_no_bit_at_all(self):
        # One program alone, which cannot lead back: the last state says of itself all that there is.
        chain = document_of_clauses(("house", (("call", "c", ("x",)),)))
        self.assertEqual(pack(chain, ("program", chain[1], ((("x", 0),),))), [1])
        # Each choice of a next state is open or not: here what comes next must be new, until all is said.
        for many in (1, 3, 6):
            document = samples.plus_chain(many)
            program = made(document)
            bits = pack(document, program)
            self.assertEqual(unpack(document, bits), program)
            self.assertEqual(bits, bits_of(document, program))
        single = ("house", (("call", "c", ("x", "y")),))
        turn = document_of_clauses(single, ("clause", "k", ("s", "t"), (("s", "c", (("x", "t"),)), ("t", "c", (("y", "s"),)))))
        # The first entry leads to a new state, for x behind x would break; so it costs no bit.
        self.assertEqual(open_choices(turn, ()), [("x", 1)])
        self.assertEqual(open_choices(turn, (("x", 1),)), [("y", 2), ("y", 0)])
        self.assertEqual(pack(turn, made(turn)), [1])

    def test_equal_meanings(self):
        for document in SOUND[::2]:
            said = document_of(meaning(document), "said")
            for program in right_programs(document)[::9]:
                self.assertEqual(pack(said, program), pack(document, program))

    def test_more_is_said(self):
        count = 0
        for number, document in enumerate(SOUND[::2]):
            more = SOUND[(number * 7 + 1) % len(SOUND)]
            if more[1] != document[1]:
                continue
            both = document_of_clauses(document[1], *document[2], *[("clause", "more" + "abc"[at]) + clause[2:]
                                                                     for at, clause in enumerate(more[2])])
            if plain.sound(both):
                for program in right_programs(both)[::3]:
                    count += 1
                    self.assertLessEqual(len(pack(both, program)), len(pack(document, program)))
        self.assertGreater(count, 50)

    def test_stands_that_are_not_kept_together(self):
        many = 0
        for number, document in enumerate(DEEP[ONE] + DEEP[TWO]):
            for seed in range(6):
                program = mended(document, samples.drawn_program(number * 6 + seed, document[1], 1 + seed))
                if len(program[2]) < 12:
                    many += 1
                    bits = pack(document, program)
                    self.assertEqual(bits, bits_of(document, program))
                    self.assertEqual(unpack(document, bits), program)
        self.assertGreater(many, 80)

    def test_two_calls(self):
        for seed in range(24):
            document = samples.drawn_document(seed, (TWO, STORE, WIDE)[seed % 3], 2)
            if plain.sound(document):
                program = mended(document, samples.drawn_program(seed, document[1], 1 + seed % 5))
                bits = pack(document, program)
                self.assertEqual(unpack(document, bits), program)
                if len(program[2]) < 9:
                    self.assertEqual(bits, bits_of(document, program))

    def test_programs_that_are_not_normal(self):
        program = ("program", ONE, ((("y", 1),), (("y", 2),), (("y", 1),)))
        self.assertTrue(is_orderly(program))
        self.assertEqual(unpack(TWICE_DOC, pack(TWICE_DOC, program)), program)
        self.assertNotEqual(pack(TWICE_DOC, program), pack(TWICE_DOC, normal(program)))

    def test_large(self):
        program = mended(STORE_DOC, samples.drawn_program(4, STORE, 200))
        bits = pack(STORE_DOC, program)
        self.assertEqual(unpack(STORE_DOC, bits), program)
        self.assertEqual(filled(STORE_DOC, bits), bits)
        self.assertEqual(filled(STORE_DOC, bits[:-1]), bits[:-1] + [1] * (len(filled(STORE_DOC, bits[:-1])) - len(bits) + 1))

    def test_errors(self):
        for thing in ODD:
            if not plain.document_form(thing):
                for asking in (pack, unpack, filled):
                    with self.assertRaises(BadDocument):
                        asking(thing, None)
            with self.assertRaises(BadProgram):
                pack(STORE_DOC, thing)
            for asking in (pack, unpack, filled):
                with self.assertRaises(Unsound):
                    asking(QUARREL_DOC, thing)
            for asking in (unpack, filled):
                if not isinstance(thing, (list, tuple)):
                    with self.assertRaises(BadBits) as caught:
                        asking(TWICE_DOC, thing)
                    self.assertIsNone(caught.exception.at)
                elif not all(type(bit) is int and bit in (0, 1) for bit in thing):
                    with self.assertRaises(BadBits) as caught:
                        asking(TWICE_DOC, thing)
                    self.assertEqual(caught.exception.at, 1 if type(thing[0]) is int and thing[0] in (0, 1) else 0, thing)
        for asking in (unpack, filled):
            with self.assertRaises(BadBits) as caught:
                asking(TWICE_DOC, {0: 1})
            self.assertIsNone(caught.exception.at)
        with self.assertRaises(OtherHouse):
            pack(FREE_DOC, ring(TURNED, 2, ()))
        with self.assertRaises(OtherHouse):
            pack(STORE_DOC, ("program", ONE, ((("x", 0),), (("x", 0),))))
        for rows in (((("x", 0),), (("x", 0),)), ((("x", 2),), (("x", 0),), (("y", 1),)), ((("y", 0),), (("x", 1),))):
            with self.assertRaises(NotOrderly):
                pack(TWICE_DOC, ("program", ONE, rows))
        late = ("program", TWO, ((("x", 0), ("x", 2)), (("x", 0), ("x", 0)), (("x", 1), ("x", 0))))
        with self.assertRaises(NotOrderly):
            pack(FREE_DOC, late)
        for document in SOUND[::5]:
            for program in PROGRAMS.get(document[1], [])[::37]:
                if not plain.right(document, program):
                    with self.assertRaises(NotRight) as caught:
                        pack(document, program)
                    self.assertEqual(caught.exception.word, first_break_of(document, program))
        self.assertEqual(pack(program=MADE, document=STORE_DOC), pack(STORE_DOC, MADE))
        self.assertEqual(unpack(bits=[1, 1], document=TWICE_DOC), ring(ONE, 1, (0,)))
        self.assertEqual(filled(bits=[], document=TWICE_DOC), [1, 1])


@lru_cache(maxsize=400)
def packed(document):
    """All right programs of some states, with their bits."""
    return [(program, pack(document, program)) for program in right_programs(document)]


def told_by_trying(document, bits, word):
    """What all those programs tell whose bits begin so."""
    found = {plain.trace(program, word)[0] for program, told in packed(document) if told[:len(bits)] == bits}
    answers = ()
    for at, call in enumerate(word):
        may = {told[at] for told in found}
        if len(may) > 1:
            return answers, tuple(answer for answer in plain.answers_of(document[1], call) if answer in may)
        answers += tuple(may)
    return answers, ()


class Foretold(unittest.TestCase):
    def cases(self):
        for document in [document for document in SOUND if document[1] == ONE][::2]:
            for bits in all_bits(5):
                if not any(told == bits[:len(told)] for _, told in packed(document) if len(told) < len(bits)):
                    yield document, bits

    def check(self, document, bits, word, told):
        self.assertIs(type(told), tuple)
        self.assertEqual(foretold(document, bits, word), told)
        answers, may = told
        self.assertIs(type(answers), tuple)
        self.assertTrue(len(may) > 1 or may == ())
        self.assertEqual(may == (), len(answers) == len(word))

    def test_all(self):
        lengths = {}
        for document, bits in self.cases():
            for many in (0, 1, 2, 3):
                word = ("c",) * many
                expect = told_by_trying(document, bits, word)
                # The programs that are tried have few states: with too many bits ahead they do not tell all.
                states = [len(program[2]) for program, told in packed(document) if told[:len(bits)] == bits]
                if states and min(states) + many <= 6:
                    self.check(document, bits, word, expect)
                    key = (len(expect[0]), len(expect[1]))
                    lengths[key] = lengths.get(key, 0) + 1
        self.assertTrue({(0, 2), (1, 2), (2, 2), (1, 0), (2, 0), (3, 0)} <= set(lengths), lengths)

    def test_two_calls(self):
        # All programs of two states agree at least on what is common to all.
        count = 0
        for document in [document for document in SOUND if document[1] == TWO][::3] + DEEP[TWO][4:6]:
            for bits in all_bits(4)[::2]:
                programs = [program for program, told in packed(document) if told[:len(bits)] == bits]
                if not programs or len(pack(document, programs[0])) < len(bits):
                    continue
                for word in plain.words(TWO, 3)[::3]:
                    answers, may = foretold(document, bits, word)
                    for program in programs:
                        told = plain.trace(program, word)[0]
                        self.assertEqual(told[:len(answers)], answers)
                        if may:
                            self.assertIn(told[len(answers)], may)
                    count += 1
                    self.each_comes(document, bits, word, answers, may)
        self.assertGreater(count, 200)

    def each_comes(self, document, bits, word, answers, may):
        """Each answer that may come is given by a program whose bits begin so: such bits are found by trying."""
        left = set(may)
        for more in all_bits(6) if may else []:
            try:
                full = filled(document, bits + more)
            except BadBits:
                continue
            left -= {plain.trace(unpack(document, full), word)[0][len(answers)]}
            if not left:
                return
        draw = random.Random(5)
        for _ in range(400 if left else 0):
            try:
                full = filled(document, bits + [draw.randrange(2) for _ in range(draw.randrange(7, 30))])
            except BadBits:
                continue
            left -= {plain.trace(unpack(document, full), word)[0][len(answers)]}
        self.assertEqual(left, set())

    def test_by_hand(self):
        self.assertEqual(foretold(TWICE_DOC, [0], WORD), (("x", "y"), ("x", "y")))
        self.assertEqual(foretold(TWICE_DOC, [1], WORD), (("y",), ("x", "y")))
        self.assertEqual(foretold(TWICE_DOC, [], WORD), ((), ("x", "y")))
        self.assertEqual(foretold(TWICE_DOC, (), ()), ((), ()))
        self.assertEqual(foretold(TWICE_DOC, [1, 1], WORD * 60), (("y",) * 180, ()))
        self.assertEqual(foretold(samples.plus_chain(4), [], ("c",) * 200), (("x",) * 4 + ("y",) * 196, ()))
        self.assertEqual(foretold(RING, [], ("c",)), ((), ("x", "y", "z")))
        # An entry of state 0 that is not written yet hangs on the stands of state 0, not on those of a later one.
        parted = document_of_clauses(TWO, ("clause", "k", ("s", "p"), (
            ("s", "c", (("x", "p"),)), ("s", "d", (("x", "s"),)), ("p", "c", (("x", "p"),)), ("p", "d", (("y", "p"),)))))
        self.assertEqual(foretold(parted, [], ("d",)), (("x",), ()))
        self.assertEqual(foretold(parted, [], ("c", "d", "c", "d")), (("x", "y", "x", "y"), ()))
        # Where all is let, a new state may answer anything.
        wild = document_of_clauses(TWO, ("clause", "k", ("s", "t"), (("s", "c", (("x", "t"),)), ("s", "d", (("x", "t"), ("y", "t"))))))
        self.assertEqual(foretold(wild, [0, 0], ("d", "c")), (("x",), ("x", "y")))
        self.assertEqual(foretold(wild, [0, 0], ("c", "c")), (("x",), ("x", "y")))
        self.assertEqual(foretold(wild, [0, 0, 1], ("d", "c", "d", "d")), (("x", "x"), ("x", "y")))
        # What bits leave of a code: of six choices the first two, and the next two, have the same answer.
        wide = document_of_clauses(("house", (("call", "c", ("x", "y", "z")),)))
        self.assertEqual(foretold(wide, [], ("c",)), ((), ("x", "y", "z")))
        self.assertEqual(foretold(wide, [0], ("c", "c")), (("x",), ("x", "y", "z")))
        self.assertEqual(foretold(wide, [1, 0], ("c", "c")), (("y",), ("x", "y", "z")))
        self.assertEqual(foretold(wide, [1], ("c", "c")), ((), ("y", "z")))
        self.assertEqual(foretold(wide, [0, 1], ("c", "c")), (("x", "x"), ()))

    def test_errors(self):
        for thing in ODD:
            if not plain.document_form(thing):
                with self.assertRaises(BadDocument):
                    foretold(thing, None, None)
            with self.assertRaises(Unsound):
                foretold(QUARREL_DOC, thing, None)
            if not isinstance(thing, (list, tuple)):
                with self.assertRaises(BadBits) as caught:
                    foretold(TWICE_DOC, thing, None)
                self.assertIsNone(caught.exception.at)
            if thing != () or not isinstance(thing, tuple):
                with self.assertRaises(BadWord):
                    foretold(TWICE_DOC, [], thing)
        for bits, at in (([1, 1, 0], 2), ([2], 0), ([0, True], 1), ([1, 1, None], 2)):
            with self.assertRaises(BadBits) as caught:
                foretold(TWICE_DOC, bits, ("d",))
            self.assertEqual(caught.exception.at, at)
        for word in (("d",), ["c"], "c", ("c", None)):
            with self.assertRaises(BadWord):
                foretold(TWICE_DOC, [1, 1], word)
        self.assertEqual(foretold(word=("c",), bits=[0], document=TWICE_DOC), (("x",), ()))


class Readers(unittest.TestCase):
    def test_all(self):
        count = 0
        for number, document in enumerate(SOUND):
            for program in right_programs(document)[number % 11::11][:9]:
                bits = pack(document, program)
                reader = Reader(document)
                for many in range(len(bits) + 1):
                    self.check(reader, document, program, bits, many)
                    if many < len(bits):
                        with self.assertRaises(NotDone):
                            reader.program()
                        self.assertIsNone(reader.feed(bits[many]))
                self.assertEqual(reader.program(), program)
                count += 1
        self.assertGreater(count, 100)

    def check(self, reader, document, program, bits, many):
        self.assertIs(reader.done(), many == len(bits))
        # The entries that are known: those whose codes are read, and those with one open choice behind them.
        entries, left = (), bits[:many]
        for row in program[2]:
            for choice in row:
                choices = open_choices(document, entries)
                told = code(choices.index(choice), len(choices))
                if len(told) > len(left):
                    break
                left = left[len(told):]
                entries += (choice,)
            else:
                continue
            break
        width = len(document[1][1])
        rows = tuple(tuple(entries[at:at + width]) for at in range(0, len(entries) - width + 1, width))
        self.assertEqual(reader.rows(), rows)
        self.assertEqual(reader.states(), max([to for _, to in entries], default=0) + 1)
        for word in plain.words(document[1], 3)[::3]:
            self.assertEqual(reader.answers(word), foretold(document, bits[:many], word))

    def test_errors_change_nothing(self):
        reader = Reader(STORE_DOC)
        bits = pack(STORE_DOC, MADE)
        for number, bit in enumerate(bits):
            before = (reader.done(), reader.states(), reader.rows(), reader.answers(("take", "put", "take")))
            for thing in ODD + [2, -1, True, False, "0"]:
                if not plain.number(thing) or thing not in (0, 1):
                    with self.assertRaises(BadBit):
                        reader.feed(thing)
                if not isinstance(thing, tuple) or thing != ():
                    with self.assertRaises(BadWord):
                        reader.answers(thing)
            with self.assertRaises(NotDone):
                reader.program()
            self.assertEqual((reader.done(), reader.states(), reader.rows(), reader.answers(("take", "put", "take"))), before)
            reader.feed(bit=bit)
        for thing in (None, True, 2, "1"):
            with self.assertRaises(BadBit):
                reader.feed(thing)
        for bit in (0, 1):
            with self.assertRaises(Ended):
                reader.feed(bit)
        self.assertEqual(reader.program(), MADE)
        self.assertEqual(reader.rows(), MADE[2])
        self.assertEqual(reader.answers(word=("put",)), (("ok",), ()))

    def test_by_hand(self):
        reader = Reader(TWICE_DOC)
        self.assertEqual((reader.done(), reader.states(), reader.rows()), (False, 1, ()))
        reader.feed(0)
        self.assertEqual((reader.states(), reader.rows()), (2, ((("x", 1),),)))
        self.assertEqual(reader.answers(WORD), (("x", "y"), ("x", "y")))
        reader.feed(1)
        reader.feed(0)
        self.assertEqual(reader.program(), ("program", ONE, ((("x", 1),), (("y", 0),))))
        # An entry with one open choice is known without a bit, ahead of the next one.
        turn = document_of_clauses(ONE, ("clause", "k", ("s", "t"), (("s", "c", (("x", "t"),)), ("t", "c", (("y", "s"),)))))
        self.assertEqual((Reader(turn).rows(), Reader(turn).states(), Reader(turn).done()), (((("x", 1),),), 2, False))
        two = Reader(document_of_clauses(TWO, one_place("k", "c", "x"), one_place("l", "d", "y")))
        self.assertEqual((two.rows(), two.states()), ((), 1))
        two.feed(1)
        self.assertEqual((two.rows(), two.done()), ((), False))
        two.feed(1)
        self.assertEqual((two.rows(), two.done()), (((("x", 0), ("y", 0)),), True))

    def test_names(self):
        self.assertTrue(inspect.isclass(Reader) and Reader.__module__ == "saidandasked.readers")
        told = {"feed": ["bit"], "done": [], "states": [], "rows": [], "answers": ["word"], "program": []}
        for name, names in told.items():
            self.assertIn(name, vars(Reader))
            self.assertEqual(list(inspect.signature(vars(Reader)[name]).parameters), ["self"] + names)
        self.assertEqual(list(inspect.signature(Reader).parameters), ["document"])
        for thing in ODD:
            if not plain.document_form(thing):
                with self.assertRaises(BadDocument):
                    Reader(thing)
        with self.assertRaises(Unsound):
            Reader(document=QUARREL_DOC)
        before = copy.deepcopy(STORE_DOC)
        self.assertEqual(Reader(document=STORE_DOC).states(), 2)
        self.assertEqual(STORE_DOC, before)


if __name__ == "__main__":
    unittest.main()
