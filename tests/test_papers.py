"""papers: closed tables and ranked lists [22]."""

import unittest
from itertools import product

from saidandasked.errors import BadDocument, Unsound
from saidandasked.papers import closed_table, is_closed, is_ranked, ranked_list
from tests import plain, samples
from tests.samples import FREE_DOC, ODD, ONE, QUARREL_DOC, STORE_DOC, bent

DOCUMENTS = samples.small_documents() + samples.drawn_documents(120)
SOUND = [document for document in DOCUMENTS if plain.sound(document)]
UNSOUND = [document for document in DOCUMENTS if not plain.sound(document)]


def stand_form(document, x):
    if not isinstance(x, tuple) or len(x) != len(document[2]):
        return False
    for clause, lot in zip(document[2], x):
        if not isinstance(lot, tuple) or not lot or not all(isinstance(p, str) and p in clause[2] for p in lot):
            return False
        if not plain.ascending([clause[2].index(p) for p in lot]):
            return False
    return True


def pairs_form(document, thing):
    if not isinstance(thing, tuple) or not all(isinstance(row, tuple) and len(row) == 2 for row in thing):
        return False
    return all(stand_form(document, row[0]) for row in thing) and len({row[0] for row in thing}) == len(thing)


def closed(document, thing):
    """is_closed by its words."""
    if not pairs_form(document, thing):
        return False
    calls = plain.calls(document[1])
    stands = [row[0] for row in thing]
    for stand, told in thing:
        if not isinstance(told, tuple) or len(told) != len(calls):
            return False
        for call, answer in zip(calls, told):
            if not isinstance(answer, str) or answer not in plain.answers_of(document[1], call):
                return False
            if plain.stand_after(document, stand, call, answer) not in stands:
                return False
    return True


def ranked(document, thing):
    """is_ranked by its words."""
    if not pairs_form(document, thing):
        return False
    earlier = []
    for stand, call in thing:
        if not isinstance(call, str) or call not in plain.calls(document[1]):
            return False
        for answer in plain.answers_of(document[1], call):
            there = plain.stand_after(document, stand, call, answer)
            if () not in there and there not in earlier:
                return False
        earlier.append(stand)
    return True


def made_table(document, first):
    """The closed table from a safe stand on, by first answers."""
    known = plain.ranks(document, first)
    queue, rows = [first], []
    for stand in queue:
        told = []
        for call in plain.calls(document[1]):
            for answer in plain.answers_of(document[1], call):
                there = plain.stand_after(document, stand, call, answer)
                if () not in there and known[there] is None:
                    told.append(answer)
                    if there not in queue:
                        queue.append(there)
                    break
        rows.append((stand, tuple(told)))
    return tuple(rows)


def made_list(document, first):
    """The ranked list of the stands that come from a stand."""
    known = plain.ranks(document, first)
    order = [stand for stand in plain.coming(document, first) if known[stand] is not None]
    rows = []
    for stand in sorted(order, key=lambda s: known[s]):
        for call in plain.calls(document[1]):
            there = [plain.stand_after(document, stand, call, a) for a in plain.answers_of(document[1], call)]
            low = [0 if () in s else known[s] for s in there]
            if None not in low and max(low) < known[stand]:
                rows.append((stand, call))
                break
    return tuple(rows)


class Papers(unittest.TestCase):
    def test_by_hand(self):
        empty, some, both = (("empty",),), (("some",),), (("empty", "some"),)
        self.assertEqual(closed_table(STORE_DOC), (
            (empty, ("ok", "none")), (some, ("ok", "ok")), (both, ("ok", "ok"))))
        self.assertEqual(ranked_list(STORE_DOC), ())
        self.assertEqual(ranked_list(QUARREL_DOC), (((("p",),) * 3, "c"),))
        self.assertEqual(closed_table(FREE_DOC), (((), ("x", "x")),))
        self.assertEqual(ranked_list(FREE_DOC), ())
        with self.assertRaises(Unsound):
            closed_table(QUARREL_DOC)

    def test_empty_papers(self):
        for document in DOCUMENTS[::5] + [FREE_DOC]:
            self.assertIs(is_closed(document, ()), True)
            self.assertIs(is_ranked(document, ()), True)
        self.assertIs(is_closed(FREE_DOC, (((), ("y", "x")),)), True)
        self.assertIs(is_ranked(FREE_DOC, (((), "c"),)), False)

    def test_tables(self):
        for document in SOUND:
            table = closed_table(document)
            self.assertEqual(table, made_table(document, plain.first_stand(document)))
            self.assertIs(is_closed(document, table), True)
            self.assertIs(is_closed(document, tuple(reversed(table))), True)
        for document in UNSOUND:
            with self.assertRaises(Unsound):
                closed_table(document)

    def test_lists(self):
        for document in DOCUMENTS:
            told = ranked_list(document)
            self.assertEqual(told, made_list(document, plain.first_stand(document)))
            self.assertIs(is_ranked(document, told), True)
        for many in (1, 40):
            document = samples.rank_chain(many)
            self.assertEqual([row[0] for row in ranked_list(document)], list(reversed(plain.coming(document))))
            self.assertTrue(is_ranked(document, ranked_list(document)))
            self.assertEqual(is_ranked(document, ranked_list(document)[::-1]), many == 1)

    def test_stands_in_papers(self):
        # A stand, by its form, is in some closed table if it is safe, otherwise in some ranked list.
        for document in samples.small_documents()[::3] + samples.drawn_documents(25):
            lots = [[lot for many in range(1, len(clause[2]) + 1) for lot in product(clause[2], repeat=many)
                     if plain.ascending([clause[2].index(p) for p in lot])] for clause in document[2]]
            for stand in list(product(*lots))[:30]:
                if plain.ranks(document, stand)[stand] is None:
                    self.assertTrue(is_closed(document, made_table(document, stand)))
                else:
                    told = made_list(document, stand)
                    self.assertIn(stand, [row[0] for row in told])
                    self.assertTrue(is_ranked(document, told))

    def test_bent(self):
        for document in SOUND[::9] + [STORE_DOC]:
            for thing in bent(closed_table(document)):
                self.assertIs(is_closed(document, thing), closed(document, thing), thing)
        for document in UNSOUND[::9] + [QUARREL_DOC]:
            for thing in bent(ranked_list(document)):
                self.assertIs(is_ranked(document, thing), ranked(document, thing), thing)

    def test_a_row_more_less_or_twice(self):
        for document in SOUND[::2] + UNSOUND:
            for told, judge, plainly in ((is_closed, made_table, closed), (is_ranked, made_list, ranked)):
                if judge is made_table and not plain.sound(document):
                    continue
                rows = judge(document, plain.first_stand(document))
                for at in range(len(rows)):
                    less = rows[:at] + rows[at + 1:]
                    self.assertIs(told(document, less), plainly(document, less))
                    self.assertIs(told(document, rows + rows[at:at + 1]), False)
                    swapped = rows[at:] + rows[:at]
                    self.assertIs(told(document, swapped), plainly(document, swapped))

    def test_other_answers(self):
        for document in samples.small_documents():
            stands = list(plain.coming(document))
            if len(stands) > 2:
                continue
            for told in product("xy", repeat=len(stands)):
                thing = tuple((stand, (answer,)) for stand, answer in zip(stands, told))
                self.assertIs(is_closed(document, thing), closed(document, thing))
            for many in range(len(stands) + 1):
                for order in product(stands, repeat=many):
                    thing = tuple((stand, "c") for stand in order)
                    self.assertIs(is_ranked(document, thing), ranked(document, thing))

    def test_broken_stands_are_not_in_papers(self):
        document = ("document", ONE, (("clause", "k", ("p",), (("p", "c", ()),)),))
        self.assertFalse(is_ranked(document, ((((),), "c"),)))
        self.assertFalse(is_closed(document, ((((),), ("x",)),)))
        self.assertTrue(is_ranked(document, (((("p",),), "c"),)))

    def test_any_value(self):
        for document in (STORE_DOC, QUARREL_DOC, FREE_DOC):
            for thing in ODD + [(((("p",),) * 3, ["c"]),), ((("empty",), ("ok", "none")),)]:
                self.assertIs(is_closed(document, thing), closed(document, thing), thing)
                self.assertIs(is_ranked(document, thing), ranked(document, thing), thing)

    def test_errors(self):
        for thing in ODD:
            for asked, rest in ((is_closed, ((),)), (is_ranked, (None,)), (closed_table, ()), (ranked_list, ())):
                with self.assertRaises(BadDocument):
                    asked(thing, *rest)
        self.assertTrue(is_closed(thing=(), document=STORE_DOC))
        self.assertTrue(is_ranked(thing=(), document=STORE_DOC))
        self.assertEqual(len(closed_table(document=STORE_DOC)), 3)
        self.assertEqual(ranked_list(document=STORE_DOC), ())


if __name__ == "__main__":
    unittest.main()
