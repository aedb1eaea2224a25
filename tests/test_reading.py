"""reading [12] to [15], texts [16], ends [17], by a plain reader of texts."""

import random
import unittest

from saidandasked.ends import forced, shortest_end
from saidandasked.errors import BadClause, BadHouse, BadOuter, BadText, BadThing
from saidandasked.outers import is_outer
from saidandasked.reading import can_follow, read, read_clause
from saidandasked.texts import clause_text, text_of
from saidandasked.words import words_of
from tests import plain, plaintexts, samples
from tests.samples import COPIES, FREE_DOC, MADE, ODD, ONE, STORE, STORE_CLAUSE, STORE_DOC, TAKES, TWO, bent

VOCABULARY = """house document program law outer call clause state node inner ask copy draw true false give wait never
: , 0 1 2 3 4 7 398 399 400 00 01 10 a b c d x y zz answer A a_ ok no yes 9a abcdefghi put take store empty _ . ~""".split()
STARTS = ("document", "house", "law", "outer", "program")
HEAD = "document\ncall put: ok, full\ncall take: ok, none\n"
OUTER = ("outer", ONE, STORE, (("wait", (1,)), ("inner", "put", (2, 3)), ("answer", "x", 0), ("answer", "y", 0)))


def things():
    found = [STORE, STORE_DOC, FREE_DOC, MADE, TAKES, COPIES, OUTER]
    for seed in range(28):
        document = samples.drawn_document(seed)
        found += [document, document[1], samples.drawn_program(seed, document[1], 1 + seed % 4),
                  samples.drawn_law(seed, document[1], 1 + seed % 3, 1 + seed % 8), samples.drawn_outer(seed)]
    return found


THINGS = things()


def told_words(text):
    return [word for word, _, _ in words_of(text)]


def beginnings(many, seed=1):
    """Some beginnings of the words of texts."""
    draw = random.Random(seed)
    for thing in THINGS:
        told = told_words(text_of(thing))
        for _ in range(many):
            yield told[:draw.randrange(len(told) + 1)]


def spread(draw, told):
    """The words with blanks and line feeds between and around them, and the line and column of the last one."""
    text, place = draw.choice(("", " ", "\n", " \n  ")), None
    for at, word in enumerate(told):
        near = at > 0 and (word in ":," or told[at - 1] in ":,") and draw.random() < 0.4
        text += "" if near or at == 0 else draw.choice((" ", "\n", "  ", " \n\n "))
        place = text.count("\n") + 1, len(text) - text.rfind("\n")
        text += word
    return text + draw.choice(("", " ", "\n", "\n  ")), place


def end_place(text):
    return text.count("\n") + 1, len(text) - text.rfind("\n")


def examples(wanted):
    """Words for what is wanted."""
    for told in wanted:
        if told == "NAME":
            yield from ("qq", "abcdefgh")
        elif ".." in told:
            least, most = map(int, told.split(".."))
            yield from map(str, sorted({least, (least + most) // 2, most}))
        elif told != "END":
            yield told


class Words(unittest.TestCase):
    def test_plain_reader(self):
        draw = random.Random(7)
        for told in beginnings(5):
            for word in draw.sample(VOCABULARY, 4) + told[-1:]:
                text, place = spread(draw, told + [word])
                self.assertEqual([w for w, _, _ in plaintexts.words(text)], told + [word])
                at, wanted, whole = plaintexts.look(told + [word])
                if at > len(told):
                    self.assertEqual(can_follow(text), wanted)
                    self.assertEqual(whole, "END" in wanted)
                    continue
                for asked in (can_follow, read, forced, shortest_end):
                    with self.assertRaises(BadText) as caught:
                        asked(text)
                    told_error = caught.exception
                    self.assertEqual((told_error.line, told_error.column), place)
                    self.assertEqual(told_error.wanted, wanted)

    def test_first_word_that_cannot_stand(self):
        draw = random.Random(3)
        for told in list(beginnings(2, 9))[:250]:
            for _ in range(3):
                changed = list(told)
                changed.insert(draw.randrange(len(told) + 1), draw.choice(VOCABULARY))
                at, wanted, _ = plaintexts.look(changed)
                text = " ".join(changed)
                if at == len(changed):
                    self.assertEqual(can_follow(text), wanted)
                else:
                    with self.assertRaises(BadText) as caught:
                        can_follow(text)
                    self.assertEqual(caught.exception.column, len(" ".join(changed[:at] + [""])) + 1)
                    self.assertEqual(caught.exception.wanted, wanted)

    def test_by_hand(self):
        self.assertEqual(can_follow(""), STARTS)
        self.assertEqual(can_follow(" \n "), STARTS)
        told = HEAD + "clause store: empty, some empty put: ok empty"
        self.assertEqual(can_follow(told), (",", "END", "clause", "empty", "some"))
        told = HEAD + "clause store: empty, some\nsome take:"
        self.assertEqual(can_follow(told), ("never", "none", "ok"))
        self.assertEqual(can_follow(told + " ok some"), (",", "END", "clause"))
        self.assertEqual(can_follow(told + " none some"), ("END", "clause"))
        self.assertEqual(can_follow(told + " never"), ("END", "clause"))
        self.assertEqual(can_follow(told + " ok some, "), ("none",))
        self.assertEqual(can_follow(told + " ok empty, "), ("none", "ok"))
        self.assertEqual(can_follow(told + " ok empty, ok"), ("some",))
        self.assertEqual(can_follow(told + " ok empty, none"), ("empty", "some"))
        self.assertEqual(can_follow(HEAD + "clause store: empty, some empty put: never empty"), ("take",))
        self.assertEqual(can_follow(HEAD + "clause store: empty, some empty take: never"), ("END", "clause", "some"))
        self.assertEqual(can_follow(HEAD + "clause"), ("NAME",))
        self.assertEqual(can_follow(HEAD), (",", "END", "call", "clause"))

    def test_houses(self):
        calls = "".join(f"call {name}: a " for name in "abcde")
        self.assertEqual(can_follow("house " + calls), (",", "END"))
        self.assertEqual(can_follow("document " + calls + ", b, c, d, e"), ("END", "clause"))
        self.assertEqual(can_follow("program " + calls[:-10] + ", b, c, d, e"), ("call", "state"))
        self.assertEqual(can_follow("outer " + calls[:-10]), (",", "inner"))
        self.assertEqual(can_follow("outer " + calls[:-20] + "inner call q: a"), (",", "call", "node"))
        self.assertEqual(can_follow("outer " + calls[:-20] + "inner call q: a call r: a"), (",", "node"))
        for text, column in (("house call a: a call a", 22), ("outer call a: a inner call a", 28),
                             ("house call a: b, b", 18), ("document call a: b clause k: p, p", 33),
                             ("document call a: b clause k: p clause k", 39)):
            with self.assertRaises(BadText) as caught:
                can_follow(text)
            self.assertEqual((caught.exception.line, caught.exception.column), (1, column))
            self.assertEqual(caught.exception.wanted, ("NAME",))
        # One name may stand for things that are not of its like.
        text = "document call a: a clause a: a a a: a a"
        self.assertEqual(read(text), ("document", ("house", (("call", "a", ("a",)),)), (
            ("clause", "a", ("a",), (("a", "a", (("a", "a"),)),)),)))

    def test_many_clauses_and_places(self):
        clauses = "".join(f"clause {name}: p " for name in "abcdefgh")
        self.assertEqual(can_follow("document call c: x " + clauses), (",", "END", "p"))
        self.assertEqual(can_follow("document call c: x " + clauses[:-12]), (",", "END", "clause", "p"))
        places = ", ".join(samples.free(40))
        wanted = can_follow("document call c: x clause k: " + places)
        self.assertEqual(wanted, tuple(sorted(samples.free(40) + ["END", "clause"])))

    def test_numbers(self):
        head = "program call c: x state 0 c: x "
        self.assertEqual(can_follow(head), ("0..399",))
        self.assertEqual(can_follow(head + "0"), ("END", "state"))
        # A state may be told of ahead of its coming.
        self.assertEqual(can_follow(head + "1"), ("state",))
        self.assertEqual(can_follow(head + "399 state"), ("1..1",))
        self.assertEqual(can_follow(head + "1 state 1 c: x 1"), ("END", "state"))
        for number in ("400", "00", "01", "-1", "1000", "0x", "_", "a"):
            with self.assertRaises(BadText) as caught:
                read(head + number)
            self.assertEqual(caught.exception.wanted, ("0..399",))
        self.assertEqual(read(head + "10 " + " ".join(f"state {at} c: x 0" for at in range(1, 11)))[2][0], (("x", 10),))
        whole = head + "0 " + " ".join(f"state {at} c: x 399" for at in range(1, 400))
        self.assertEqual(can_follow(whole), ("END",))
        self.assertEqual(len(read(whole)[2]), 400)
        self.assertEqual(can_follow("law"), ("1..3",))

    def law_near(self, objects, last, rest):
        """What can stand in a law with so many true nodes, and then this one."""
        nodes = " ".join(f"node {at} true" for at in range(last))
        return can_follow(f"law {objects} call c: x, y {nodes} node {last} {rest}")

    def test_laws_near_the_last_node(self):
        for objects in (2, 3):
            self.assertEqual(self.law_near(objects, 399, ""), ("false", "true"))
            self.assertEqual(self.law_near(objects, 398, ""), ("ask", "copy", "draw", "false", "true"))
            self.assertEqual(self.law_near(objects, 398, "ask 1 c:"), ("399..399",))
            self.assertEqual(self.law_near(objects, 398, "ask 1 c: 399"), (",",))
            self.assertEqual(self.law_near(objects, 398, "ask 1 c: 399, 399"), ("node",))
            self.assertEqual(self.law_near(objects, 397, "draw 398"), (",", "node"))
            self.assertEqual(self.law_near(objects, 399, "true"), ("END",))
            self.assertEqual(self.law_near(objects, 5, "draw "), ("6..399",))
        self.assertEqual(self.law_near(1, 399, ""), ("ask", "draw", "false", "true"))
        self.assertEqual(self.law_near(1, 399, "ask 0 c: 3, "), ("0..399",))
        self.assertEqual(self.law_near(1, 0, "ask"), ("0..0",))
        self.assertEqual(self.law_near(3, 0, "copy 1"), ("0..0", "2..2"))
        self.assertEqual(self.law_near(3, 0, "copy 0"), ("1..2",))
        self.assertEqual(self.law_near(2, 0, "copy 0"), ("1..1",))
        self.assertEqual(self.law_near(1, 3, "draw 0, 1, 2, 3, 4"), (",", "node"))
        self.assertEqual(self.law_near(1, 3, "draw 0, 1, 2, 3, 3"), (",", "END", "node"))
        self.assertEqual(self.law_near(1, 3, "draw 0, 1, 2, 3, 3, 3"), ("END", "node"))

    def test_outer_things(self):
        head = "outer call a: x, y call b: y, z inner call q: u, v "
        self.assertEqual(can_follow(head + "node 0"), ("ask", "give", "wait"))
        self.assertEqual(can_follow(head + "node 0 give"), ("x", "y", "z"))
        self.assertEqual(can_follow(head + "node 0 wait 5"), (",",))
        self.assertEqual(can_follow(head + "node 0 wait 0, 0"), ("END", "node"))
        self.assertEqual(can_follow(head + "node 0 ask q: "), ("1..399",))
        nodes = " ".join(f"node {at} give x 0" for at in range(398))
        self.assertEqual(can_follow(head + nodes + " node 398"), ("ask", "give", "wait"))
        self.assertEqual(can_follow(head + nodes + " node 398 ask q: 399,"), ("399..399",))
        nodes += " node 398 give x 0"
        self.assertEqual(can_follow(head + nodes + " node 399"), ("give", "wait"))
        # The four outer calls and the one inner call that there may be at most.
        head = "outer call a: x call b: x call c: x call d: x inner call e: x "
        self.assertEqual(can_follow(head), (",", "node"))
        thing = read(head + "node 0 wait 1, 1, 1, 1 node 1 ask e: 2 node 2 give x 0")
        self.assertEqual(thing[3], (("wait", (1, 1, 1, 1)), ("inner", "e", (2,)), ("answer", "x", 0)))
        for rest in ("node 0 wait 0, 0, 0, 0", "node 0 give x 0", "node 0 wait 1, 1, 1, 1 node 1 give x 1",
                     "node 0 wait 1, 1, 1, 1 node 1 ask e: 2 node 2 wait 1, 1, 1, 1"):
            self.assertIn("END", can_follow(head + rest))
            with self.assertRaises(BadOuter):
                read(head + rest)

    def test_words_without_blanks(self):
        self.assertEqual(read("house\n\n call c:x,y call d:x"), ("house", (("call", "c", ("x", "y")), ("call", "d", ("x",)))))
        with self.assertRaises(BadText) as caught:
            read("housecall c:x")
        self.assertEqual((caught.exception.line, caught.exception.column, caught.exception.wanted), (1, 1, STARTS))


class Reading(unittest.TestCase):
    def test_read_what_is_written(self):
        draw = random.Random(5)
        for thing in THINGS:
            text = text_of(thing)
            self.assertEqual(read(text), thing)
            self.assertIn("END", can_follow(text))
            told = told_words(text)
            again, _ = spread(draw, told)
            self.assertEqual(read(again), thing)
            self.assertEqual(told_words(text_of(read(again))), told)

    def test_texts_that_end_behind_each_of_their_words(self):
        for thing in THINGS[:90]:
            told = told_words(text_of(thing))
            for many in range(len(told)):
                text = " ".join(told[:many]) + " \n"[:many % 3]
                _, wanted, whole = plaintexts.look(told[:many])
                if whole:
                    try:
                        self.assertEqual(told_words(text_of(read(text))), told[:many])
                    except BadOuter:
                        self.assertEqual(told[0], "outer")
                    continue
                with self.assertRaises(BadText) as caught:
                    read(text)
                error = caught.exception
                self.assertEqual((error.line, error.column), end_place(text))
                self.assertEqual(error.wanted, wanted)

    def test_any_value(self):
        for thing in ODD:
            good = isinstance(thing, str) and all(s == "\n" or " " <= s <= "~" for s in thing)
            for asked in (can_follow, read, forced, shortest_end):
                if not good:
                    with self.assertRaises(BadText) as caught:
                        asked(thing)
                    error = caught.exception
                    self.assertEqual((error.line, error.column, error.wanted), (None, None, None))
        for text in ("a\tb", "house\r\n", "h\u00e9", "\x7f"):
            for asked in (can_follow, read, forced, shortest_end, lambda told: read_clause(ONE, told)):
                with self.assertRaises(BadText) as caught:
                    asked(text)
                self.assertIsNone(caught.exception.wanted)
        self.assertEqual(can_follow(text=""), STARTS)
        self.assertEqual(read(text="house call c: x"), ("house", (("call", "c", ("x",)),)))

    def test_the_longest_texts(self):
        house = ("house", (("call", "c", ("x", "y")),))
        program = ("program", house, tuple((("x", at),) for at in range(400)))
        self.assertEqual(read(text_of(program)), program)
        rule = ("law", house, 1, tuple(("ask", 0, "c", (at, 399)) for at in range(400)))
        self.assertEqual(read(text_of(rule)), rule)
        text = text_of(rule)
        self.assertEqual(len(read(text + " " * (20000 - len(text)))[3]), 400)
        text = "house " * 3000
        with self.assertRaises(BadText) as caught:
            read(text)
        self.assertEqual((caught.exception.column, caught.exception.wanted), (7, ("call",)))


class Clauses(unittest.TestCase):
    def test_by_hand(self):
        told = "clause store: empty, some\nempty put: ok some\nempty take: none empty\n"
        told += "some put: ok some, full some\nsome take: ok empty, ok some\n"
        self.assertEqual(clause_text(STORE, STORE_CLAUSE), told)
        self.assertEqual(read_clause(STORE, told), STORE_CLAUSE)

    def test_all(self):
        for thing in THINGS:
            if thing[0] != "document":
                continue
            for clause in thing[2]:
                text = clause_text(thing[1], clause)
                self.assertEqual(read_clause(thing[1], text), clause)
                told = told_words(text)
                for many in range(len(told) + 1):
                    for extra in ([], ["clause"], ["zzz"], ["1"]):
                        self.check(thing[1], told[:many] + extra)

    def check(self, house, told):
        text = " ".join(told)
        at, wanted, whole = plaintexts.look_clause(house, told)
        if whole:
            self.assertEqual(told_words(clause_text(house, read_clause(house, text))), told)
            return
        with self.assertRaises(BadText) as caught:
            read_clause(house, text)
        error = caught.exception
        self.assertEqual(error.wanted, wanted)
        column = len(text) + 1 if at == len(told) else len(" ".join(told[:at] + [""])) + 1
        self.assertEqual((error.line, error.column), (1, column))

    def test_errors(self):
        for thing in ODD:
            if thing != ONE:
                with self.assertRaises(BadHouse):
                    read_clause(thing, None)
                with self.assertRaises(BadHouse):
                    clause_text(thing, None)
        for thing in ODD + [STORE_CLAUSE] + [other for other in bent(samples.QUARREL_DOC[2][0])][:40]:
            if not plain.clause_form(ONE, thing):
                with self.assertRaises(BadClause):
                    clause_text(ONE, thing)
        with self.assertRaises(BadText) as caught:
            read_clause(ONE, None)
        self.assertIsNone(caught.exception.line)
        with self.assertRaises(BadText) as caught:
            read_clause(ONE, "")
        self.assertEqual((caught.exception.line, caught.exception.column, caught.exception.wanted), (1, 1, ("clause",)))
        self.assertEqual(read_clause(text="clause k: p", house=ONE), ("clause", "k", ("p",), ()))
        self.assertEqual(clause_text(clause=("clause", "k", ("p",), ()), house=ONE), "clause k: p\n")


class Texts(unittest.TestCase):
    def test_by_hand(self):
        self.assertEqual(text_of(STORE_DOC), HEAD + clause_text(STORE, STORE_CLAUSE))
        self.assertEqual(text_of(STORE), "house\n" + HEAD[9:])
        self.assertEqual(text_of(MADE), "program\n" + HEAD[9:] + (
            "state 0 put: ok 1 take: none 0\nstate 1 put: ok 1 take: ok 1\n"))
        self.assertEqual(text_of(COPIES), "law 2\n" + HEAD[9:] + (
            "node 0 ask 0 put: 1, 1\nnode 1 ask 0 take: 2, 2\nnode 2 copy 1 0 3\nnode 3 ask 0 take: 4, 5\n"
            "node 4 ask 1 take: 6, 7\nnode 5 ask 1 take: 7, 6\nnode 6 true\nnode 7 false\n"))
        self.assertEqual(text_of(OUTER), "outer\ncall c: x, y\ninner\n" + HEAD[9:] + (
            "node 0 wait 1\nnode 1 ask put: 2, 3\nnode 2 give x 0\nnode 3 give y 0\n"))
        rule = ("law", ONE, 1, (("draw", (0, 1, 0)), ("true",)))
        self.assertEqual(text_of(rule), "law 1\ncall c: x, y\nnode 0 draw 0, 1, 0\nnode 1 true\n")
        never = ("document", ONE, (("clause", "k", ("p",), (("p", "c", ()),)),))
        self.assertEqual(text_of(never), "document\ncall c: x, y\nclause k: p\np c: never\n")

    def test_errors(self):
        for thing in ODD:
            if thing not in (ONE, STORE_DOC):
                with self.assertRaises(BadThing):
                    text_of(thing)
        with self.assertRaises(BadThing):
            text_of(STORE_CLAUSE)
        with self.assertRaises(BadThing):
            text_of(("meaning", ONE, (((("x", 0),),),)))
        for many, good in ((400, True), (401, False)):
            rule = ("law", ONE, 1, (("true",),) * many)
            for thing in (samples.ring(ONE, many, ()), rule):
                if good:
                    self.assertEqual(read(text_of(thing)), thing)
                else:
                    with self.assertRaises(BadThing):
                        text_of(thing)
        for thing in bent(OUTER):
            if is_outer(thing):
                self.assertEqual(read(text_of(thing)), thing)
            else:
                with self.assertRaises(BadThing):
                    text_of(thing)
        self.assertEqual(text_of(thing=ONE), "house\ncall c: x, y\n")


class Ends(unittest.TestCase):
    def test_shortest(self):
        # A length that is one more than the least one behind each word that can stand is the least one.
        for told in beginnings(3):
            text = " ".join(told)
            wanted = can_follow(text)
            end = shortest_end(text)
            self.assertIs(type(end), tuple)
            whole = " ".join(told + list(end))
            self.assertTrue(plaintexts.look(told + list(end))[2])
            self.assertIn("END", can_follow(whole))
            self.assertEqual(end == (), "END" in wanted)
            behind = [len(shortest_end(" ".join(told + [word]))) for word in examples(wanted)]
            if end:
                self.assertEqual(len(end), 1 + min(behind), told)
            must = forced(text)
            self.assertEqual(end[:len(must)], must)

    def test_forced(self):
        for told in beginnings(3, 2):
            must = forced(" ".join(told))
            self.assertIs(type(must), tuple)
            for many in range(len(must) + 1):
                wanted = can_follow(" ".join(told + list(must[:many])))
                single = len(wanted) == 1 and wanted not in (("NAME",), ("END",))
                if single and ".." in wanted[0]:
                    least, most = wanted[0].split("..")
                    single = least == most
                    wanted = (least,)
                self.assertEqual(single, many < len(must), (told, must))
                if single:
                    self.assertEqual(wanted[0], must[many])

    def test_by_hand(self):
        self.assertEqual(forced(""), ())
        self.assertEqual(len(shortest_end("")), 5)
        self.assertEqual(forced("house"), ("call",))
        self.assertEqual(forced("house call c"), (":",))
        self.assertEqual(forced("program call c: x state"), ("0", "c", ":", "x"))
        self.assertEqual(shortest_end("program call c: x state"), ("0", "c", ":", "x", "0"))
        self.assertEqual(forced("law 2 call c: x node 0 true"), ())
        self.assertEqual(forced("law 2 call c: x node 0 draw 1 node"), ("1",))
        nodes = " ".join(f"node {at} true" for at in range(398))
        self.assertEqual(forced(f"law 2 call c: x, y {nodes} node 398 ask 0"), ("c", ":", "399", ",", "399", "node", "399"))
        self.assertEqual(forced(HEAD + "clause store: empty, some some take: ok some,"), ("none",))
        self.assertEqual(forced(HEAD + "clause store: empty, some some take: ok empty, ok"), ("some",))
        self.assertEqual(len(shortest_end("outer call c: x inner call d: x node 0")), 2)
        self.assertEqual(len(shortest_end("outer call c: x call e: x inner call d: x node 0")), 3)
        self.assertEqual(len(shortest_end("outer call c: x inner call d: x node 0 ask")), 3 + 4)
        self.assertEqual(len(shortest_end("law 3 call c: x call d: x, y node 0 ask 0")), 3 + 3)
        self.assertEqual(len(shortest_end("program call c: x call d: y state 0 c: x 399")), 4 + 399 * 10)
        self.assertEqual(len(shortest_end("document call c: x clause")), 3)


if __name__ == "__main__":
    unittest.main()
