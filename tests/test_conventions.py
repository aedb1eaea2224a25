"""The conventions [3] for every function: names of parameters, errors from left to right, nothing changed."""

import copy
import importlib
import inspect
import unittest

from saidandasked import errors
from saidandasked.bits import pack
from saidandasked.narrow import narrowing
from saidandasked.verdicts import law_verdict
from tests import plain, samples
from tests.samples import ENDLESS, MADE, ODD, ONE, STORE, STORE_CLAUSE, STORE_DOC, TAKES, TURNED

LAW = "BadLaw"
DOC = "BadDocument"
PROG = "BadProgram"
FIRST = (("empty",),)
HISTORY = (("put", "ok"),)
MEANING = ("meaning", ONE, (((("x", 0),),),))
POOL = (("clause", "some", ("p",), ()), ("clause", "more", ("p",), ()))
SUITE = (("put",), ("take", "take"))
RING = samples.ring(STORE, 2, (1,))
OUTER = ("outer", ONE, STORE, (("wait", (1,)), ("inner", "take", (2, 3)), ("answer", "x", 0), ("answer", "y", 0)))
LOWER = ("outer", STORE, samples.GAMES, (("wait", (2, 3)), ("wait", (3, 2)), ("inner", "go", (4, 3)), ("inner", "win", (4, 4)),
                                         ("answer", "ok", 1)))
WANTED = ("document", ("house", ONE[1] + STORE[1]), (samples.one_place("k", "c", "xy"),))
THING = "BadOuter"

# For each function its parameters: the name, a good value, and the error for others (None: any value is judged).
TABLE = {
    "words.is_name": [("thing", "a", None)],
    "words.words_of": [("text", "a b", "BadText")],
    "houses.is_house": [("thing", ONE, None)],
    "houses.is_word": [("house", ONE, "BadHouse"), ("thing", ("c",), None)],
    "houses.is_history": [("house", ONE, "BadHouse"), ("thing", (("c", "x"),), None)],
    "clauses.is_clause": [("house", STORE, "BadHouse"), ("thing", STORE_CLAUSE, None)],
    "clauses.is_document": [("thing", STORE_DOC, None)],
    "programs.is_program": [("thing", MADE, None)],
    "programs.answers": [("program", MADE, PROG), ("word", ("put",), "BadWord")],
    "programs.history": [("program", MADE, PROG), ("word", ("put",), "BadWord")],
    "programs.state_behind": [("program", MADE, PROG), ("word", ("put",), "BadWord")],
    "lawforms.is_law": [("thing", TAKES, None)],
    "outers.is_outer": [("thing", OUTER, None)],
    "leads.lots_behind": [("document", STORE_DOC, DOC), ("history", HISTORY, "BadHistory")],
    "leads.is_let": [("document", STORE_DOC, DOC), ("history", HISTORY, "BadHistory")],
    "leads.broken_at": [("document", STORE_DOC, DOC), ("history", HISTORY, "BadHistory")],
    "leads.first_way": [("document", STORE_DOC, DOC), ("at", 0, "BadIndex"), ("history", HISTORY, "BadHistory")],
    "leads.stand_behind": [("document", STORE_DOC, DOC), ("stand", FIRST, "BadStand"), ("call", "put", "BadCall"),
                           ("answer", "ok", "BadAnswer")],
    "stands.stands": [("document", STORE_DOC, DOC)],
    "stands.history_to": [("document", STORE_DOC, DOC), ("stand", FIRST, "BadStand")],
    "ranks.rank_of": [("document", STORE_DOC, DOC), ("stand", FIRST, "BadStand")],
    "ranks.safe": [("document", STORE_DOC, DOC)],
    "ranks.is_sound": [("document", STORE_DOC, DOC)],
    "papers.is_closed": [("document", STORE_DOC, DOC), ("thing", (), None)],
    "papers.is_ranked": [("document", STORE_DOC, DOC), ("thing", (), None)],
    "papers.closed_table": [("document", STORE_DOC, DOC)],
    "papers.ranked_list": [("document", STORE_DOC, DOC)],
    "quarrels.part_of": [("document", STORE_DOC, DOC), ("names", ["store"], "BadNames")],
    "quarrels.quarrels": [("document", STORE_DOC, DOC)],
    "quarrels.ways_out": [("document", STORE_DOC, DOC)],
    "meanings.is_meaning": [("thing", MEANING, None)],
    "meanings.meaning": [("document", STORE_DOC, DOC)],
    "meanings.document_of": [("said", MEANING, "BadMeaning"), ("name", "k", "BadName")],
    "meanings.alike": [("document", STORE_DOC, DOC), ("other", STORE_DOC, DOC)],
    "meanings.disputed": [("document", STORE_DOC, DOC), ("other", ("document", STORE, ()), DOC)],
    "futures.futures": [("document", STORE_DOC, DOC), ("k", 2, "BadCount")],
    "futures.future": [("document", STORE_DOC, DOC), ("k", 2, "BadCount"), ("number", 1, "BadNumber")],
    "futures.number_of": [("document", STORE_DOC, DOC), ("k", 0, "BadCount"), ("told", (), "BadFuture")],
    "futures.future_of": [("program", MADE, PROG), ("k", 2, "BadCount")],
    "normals.normal": [("program", MADE, PROG)],
    "normals.parting": [("program", MADE, PROG), ("other", MADE, PROG)],
    "normals.likeness": [("program", MADE, PROG), ("other", MADE, PROG)],
    "normals.is_likeness": [("program", MADE, PROG), ("other", MADE, PROG), ("thing", ((0, 0), (1, 1)), None)],
    "rights.verdict": [("document", STORE_DOC, DOC), ("program", MADE, PROG)],
    "rights.is_right_table": [("document", STORE_DOC, DOC), ("program", MADE, PROG), ("thing", (), None)],
    "makers.made": [("document", STORE_DOC, DOC)],
    "makers.kept": [("document", STORE_DOC, DOC), ("histories", [HISTORY], "BadHistories")],
    "makers.only": [("document", STORE_DOC, DOC)],
    "makers.clause_of": [("program", MADE, PROG), ("name", "k", "BadName")],
    "drafts.is_refutation": [("document", STORE_DOC, DOC), ("m", 1, "BadMany"), ("thing", (), None)],
    "drafts.fewest": [("document", STORE_DOC, DOC), ("most", 2, "BadMost")],
    "opponents.broken_by": [("document", samples.QUARREL_DOC, DOC), ("program", samples.ring(ONE, 1, ()), PROG)],
    "opponents.holder": [("document", STORE_DOC, DOC)],
    "runs.run": [("program", MADE, PROG), ("rule", TAKES, LAW), ("script", (0, 1), "BadScript")],
    "runs.asked": [("program", MADE, PROG), ("rule", TAKES, LAW), ("script", (), "BadScript")],
    "overs.over": [("program", MADE, PROG), ("rule", TAKES, LAW)],
    "overs.is_table": [("program", MADE, PROG), ("rule", TAKES, LAW), ("thing", (), None)],
    "verdicts.law_verdict": [("document", STORE_DOC, DOC), ("rule", TAKES, LAW)],
    "verdicts.is_law_verdict": [("document", STORE_DOC, DOC), ("rule", TAKES, LAW), ("thing", (), None)],
    "durations.most_steps": [("document", STORE_DOC, DOC), ("rule", TAKES, LAW), ("many", 3, "BadMany")],
    "chains.one_of": [("laws", [TAKES, TAKES], "BadLaws")],
    "chains.then": [("one", TAKES, LAW), ("other", TAKES, LAW)],
    "chains.ends": [("document", STORE_DOC, DOC), ("rule", TAKES, LAW), ("stand", FIRST, "BadStand")],
    "chains.true_from": [("document", STORE_DOC, DOC), ("rule", TAKES, LAW)],
    "reading.can_follow": [("text", "house", "BadText")],
    "reading.read": [("text", "house call c: x", "BadText")],
    "reading.read_clause": [("house", STORE, "BadHouse"), ("text", "clause k: p", "BadText")],
    "texts.text_of": [("thing", STORE_DOC, "BadThing")],
    "texts.clause_text": [("house", STORE, "BadHouse"), ("clause", STORE_CLAUSE, "BadClause")],
    "ends.forced": [("text", "house", "BadText")],
    "ends.shortest_end": [("text", "house", "BadText")],
    "alike.renamed": [("thing", STORE_DOC, "BadThing"), ("names", {"put": "add"}, "BadNames")],
    "alike.is_like": [("one", STORE_DOC, "BadThing"), ("other", STORE_DOC, "BadThing")],
    "covers.cover": [("document", STORE_DOC, DOC), ("others", (STORE_DOC,), "BadDocuments")],
    "covers.escape": [("document", STORE_DOC, DOC), ("others", (STORE_DOC,), "BadDocuments")],
    "covers.is_cover": [("document", STORE_DOC, DOC), ("others", (STORE_DOC,), "BadDocuments"), ("thing", (), None)],
    "covers.is_escape": [("document", STORE_DOC, DOC), ("others", (STORE_DOC,), "BadDocuments"), ("thing", (), None)],
    "narrow.apart": [("one", STORE_DOC, DOC), ("other", STORE_DOC, DOC)],
    "narrow.narrowing": [("one", STORE_DOC, DOC), ("other", STORE_DOC, DOC)],
    "narrow.is_narrowing": [("one", STORE_DOC, DOC), ("other", STORE_DOC, DOC), ("thing", (), None)],
    "pools.with_clauses": [("document", STORE_DOC, DOC), ("pool", POOL, "BadPool"), ("chosen", (1,), "BadSet")],
    "pools.enough": [("document", STORE_DOC, DOC), ("pool", POOL, "BadPool"), ("wanted", STORE_DOC, DOC)],
    "pools.silent": [("document", STORE_DOC, DOC), ("pool", POOL, "BadPool"), ("wanted", STORE_DOC, DOC)],
    "pools.cores": [("document", STORE_DOC, DOC)],
    "pools.idle": [("document", STORE_DOC, DOC)],
    "meets.both": [("one", STORE_DOC, DOC), ("other", STORE_DOC, DOC)],
    "meets.either": [("one", STORE_DOC, DOC), ("other", STORE_DOC, DOC)],
    "meets.mixing": [("one", STORE_DOC, DOC), ("other", STORE_DOC, DOC)],
    "meets.mixing_place": [("one", STORE_DOC, DOC), ("other", STORE_DOC, DOC)],
    "readings.readings": [("document", STORE_DOC, DOC)],
    "readings.read_by": [("document", STORE_DOC, DOC), ("program", MADE, PROG)],
    "readings.follower": [("document", STORE_DOC, DOC), ("program", MADE, PROG)],
    "readings.unread": [("document", STORE_DOC, DOC)],
    "halves.halves": [("document", STORE_DOC, DOC), ("pool", POOL, "BadPool"), ("laws", (TAKES,), "BadLaws")],
    "halves.is_halves": [("document", STORE_DOC, DOC), ("pool", POOL, "BadPool"), ("laws", (TAKES,), "BadLaws"),
                         ("thing", (), None)],
    "halves.reasons": [("document", STORE_DOC, DOC), ("rule", TAKES, LAW)],
    "barring.bars": [("rule", TAKES, LAW), ("history", HISTORY, "BadHistory")],
    "barring.normal_clause": [("house", STORE, "BadHouse"), ("clause", STORE_CLAUSE, "BadClause")],
    "barring.law_clause": [("rule", TAKES, LAW), ("name", "k", "BadName")],
    "lawmaking.law_of": [("house", STORE, "BadHouse"), ("clause", STORE_CLAUSE, "BadClause")],
    "lawmaking.fair": [("document", STORE_DOC, DOC), ("rule", TAKES, LAW)],
    "promises.asks": [("document", STORE_DOC, DOC), ("at", 0, "BadIndex"), ("laws", [TAKES, TAKES], "BadLaws"),
                      ("group", (0, 1), "BadGroup")],
    "promises.missed": [("document", STORE_DOC, DOC), ("at", 0, "BadIndex"), ("laws", [TAKES], "BadLaws")],
    "promises.is_missed": [("document", STORE_DOC, DOC), ("at", 0, "BadIndex"), ("laws", [TAKES], "BadLaws"),
                           ("thing", (), None)],
    "wrongs.silent_groups": [("document", STORE_DOC, DOC), ("at", 0, "BadIndex"), ("laws", [TAKES], "BadLaws")],
    "wrongs.least_groups": [("document", STORE_DOC, DOC), ("at", 0, "BadIndex"), ("laws", [TAKES], "BadLaws")],
    "wrongs.mirror": [("document", STORE_DOC, DOC), ("at", 0, "BadIndex"), ("laws", [TAKES], "BadLaws")],
    "wrongs.stands_for_all": [("document", STORE_DOC, DOC), ("at", 0, "BadIndex"), ("laws", [TAKES], "BadLaws"),
                              ("thing", (), None)],
    "idles.idle_laws": [("laws", [TAKES, ENDLESS], "BadLaws")],
    "idles.law_cores": [("laws", [TAKES, ENDLESS], "BadLaws")],
    "decided.sure_stands": [("document", STORE_DOC, DOC)],
    "decided.fine_stands": [("document", STORE_DOC, DOC), ("k", 3, "BadLimit")],
    "decided.is_decided": [("document", STORE_DOC, DOC), ("k", 3, "BadLimit")],
    "decided.is_lasso": [("document", STORE_DOC, DOC), ("thing", (), None)],
    "decided.decided": [("document", STORE_DOC, DOC)],
    "decided.late_break": [("document", STORE_DOC, DOC), ("k", 3, "BadLimit")],
    "depths.depth": [("document", STORE_DOC, DOC), ("m", 2, "BadMany")],
    "depths.slowest": [("document", STORE_DOC, DOC), ("m", 2, "BadMany")],
    "suites.first_break": [("document", STORE_DOC, DOC), ("suite", SUITE, "BadSuite"), ("program", MADE, PROG)],
    "suites.is_case_tree": [("document", STORE_DOC, DOC), ("m", 2, "BadMany"), ("suite", SUITE, "BadSuite"),
                            ("thing", (), None)],
    "suites.suffices": [("document", STORE_DOC, DOC), ("m", 2, "BadMany"), ("suite", SUITE, "BadSuite")],
    "gaps.gap": [("document", STORE_DOC, DOC), ("suite", SUITE, "BadSuite")],
    "misses.fewest_words": [("document", STORE_DOC, DOC), ("m", 1, "BadMany"), ("k", 3, "BadLimit")],
    "misses.is_miss_tree": [("document", STORE_DOC, DOC), ("m", 1, "BadMany"), ("k", 3, "BadLimit"), ("n", 1, "BadCount"),
                            ("thing", (), None)],
    "misses.misses": [("document", STORE_DOC, DOC), ("m", 1, "BadMany"), ("k", 3, "BadLimit")],
    "learners.learn": [("document", STORE_DOC, DOC), ("program", MADE, PROG)],
    "tellings.told_clause": [("house", STORE, "BadHouse"), ("histories", [HISTORY], "BadHistories"), ("name", "k", "BadName")],
    "positions.which": [("programs", [MADE, RING], "BadPrograms")],
    "positions.is_asking_tree": [("programs", [MADE, RING], "BadPrograms"), ("thing", (), None)],
    "positions.are_bars_of": [("programs", [MADE, RING], "BadPrograms"), ("left", 1, "BadLeft"), ("thing", (), None)],
    "homes.home": [("program", MADE, PROG)],
    "homes.is_homing_tree": [("program", MADE, PROG), ("thing", (), None)],
    "homes.are_home_bars": [("program", MADE, PROG), ("left", 1, "BadLeft"), ("thing", (), None)],
    "homes.begun_at": [("program", MADE, PROG), ("state", 1, "BadState")],
    "mending.mended": [("document", STORE_DOC, DOC), ("program", RING, PROG)],
    "mending.first_change": [("document", STORE_DOC, DOC), ("program", RING, PROG)],
    "mending.mended_along": [("documents", [STORE_DOC, STORE_DOC], "BadDocuments"), ("program", RING, PROG)],
    "mending.lasts": [("documents", [STORE_DOC, STORE_DOC], "BadDocuments"), ("program", RING, PROG)],
    "budgets.budget": [("document", STORE_DOC, DOC), ("program", RING, PROG)],
    "budgets.late_budget": [("document", STORE_DOC, DOC), ("program", RING, PROG)],
    "budgets.within": [("document", STORE_DOC, DOC), ("program", MADE, PROG), ("limit", 3, "BadLimit")],
    "spending.is_within": [("document", STORE_DOC, DOC), ("program", RING, PROG), ("limit", 3, "BadLimit"), ("thing", (), None)],
    "spending.is_beyond": [("document", STORE_DOC, DOC), ("program", RING, PROG), ("limit", 3, "BadLimit"), ("thing", (), None)],
    "spending.budget_paper": [("document", STORE_DOC, DOC), ("program", RING, PROG), ("limit", 3, "BadLimit")],
    "entries.is_stop_tree": [("document", STORE_DOC, DOC), ("program", RING, PROG), ("limit", 3, "BadLimit"),
                             ("thing", (), None)],
    "entries.exchanged": [("document", STORE_DOC, DOC), ("program", RING, PROG), ("most", 3, "BadMost")],
    "carrying.carried": [("one", STORE_DOC, DOC), ("other", STORE_DOC, DOC), ("rule", TAKES, LAW),
                         ("pairs", narrowing(STORE_DOC, STORE_DOC), "BadPaper"),
                         ("table", law_verdict(STORE_DOC, TAKES)[1], "BadPaper")],
    "atop.led": [("outer", OUTER, THING), ("program", MADE, PROG), ("word", ("c", "c"), "BadWord")],
    "atop.atop": [("outer", OUTER, THING), ("program", MADE, PROG)],
    "fits.is_fit_table": [("outer", OUTER, THING), ("inner", STORE_DOC, DOC), ("wanted", WANTED, DOC), ("thing", (), None)],
    "fits.fit": [("outer", OUTER, THING), ("inner", STORE_DOC, DOC), ("wanted", WANTED, DOC)],
    "weakest.weakest": [("outer", OUTER, THING), ("wanted", WANTED, DOC)],
    "images.image": [("outer", OUTER, THING), ("inner", STORE_DOC, DOC)],
    "stacks.stacked": [("outer", OUTER, THING), ("other", LOWER, THING)],
    "builders.built": [("inner", STORE_DOC, DOC), ("wanted", WANTED, DOC)],
    "builders.are_bars": [("inner", STORE_DOC, DOC), ("wanted", WANTED, DOC), ("thing", (), None)],
    "groups.together": [("document", STORE_DOC, DOC), ("histories", [HISTORY, ()], "BadHistories")],
    "groups.is_together": [("document", STORE_DOC, DOC), ("histories", [HISTORY, ()], "BadHistories"), ("thing", (), None)],
    "bits.pack": [("document", STORE_DOC, DOC), ("program", MADE, PROG)],
    "bits.unpack": [("document", STORE_DOC, DOC), ("bits", pack(STORE_DOC, MADE), "BadBits")],
    "bits.filled": [("document", STORE_DOC, DOC), ("bits", [0, 1], "BadBits")],
    "foretold.foretold": [("document", STORE_DOC, DOC), ("bits", [0, 1], "BadBits"), ("word", ("put", "take"), "BadWord")],
}

# The whole interface.
INTERFACE = """
words: is_name, words_of
houses: is_house, is_word, is_history
clauses: is_clause, is_document
programs: is_program, answers, history, state_behind
lawforms: is_law
outers: is_outer
leads: lots_behind, is_let, broken_at, first_way, stand_behind
stands: stands, history_to
ranks: rank_of, safe, is_sound
papers: is_closed, is_ranked, closed_table, ranked_list
quarrels: part_of, quarrels, ways_out
meanings: is_meaning, meaning, document_of, alike, disputed
futures: futures, future, number_of, future_of
normals: normal, parting, likeness, is_likeness
rights: verdict, is_right_table
makers: made, kept, only, clause_of
drafts: is_refutation, fewest
opponents: broken_by, holder
runs: run, asked
overs: over, is_table
verdicts: law_verdict, is_law_verdict
durations: most_steps
chains: one_of, then, ends, true_from
reading: can_follow, read, read_clause
texts: text_of, clause_text
ends: forced, shortest_end
alike: renamed, is_like
covers: cover, escape, is_cover, is_escape
narrow: apart, narrowing, is_narrowing
pools: with_clauses, enough, silent, cores, idle
meets: both, either, mixing, mixing_place
readings: readings, read_by, follower, unread
halves: halves, is_halves, reasons
barring: bars, normal_clause, law_clause
lawmaking: law_of, fair
promises: asks, missed, is_missed
wrongs: silent_groups, least_groups, mirror, stands_for_all
idles: idle_laws, law_cores
decided: sure_stands, fine_stands, is_decided, is_lasso, decided, late_break
depths: depth, slowest
suites: first_break, is_case_tree, suffices
gaps: gap
misses: fewest_words, is_miss_tree, misses
learners: learn
tellings: told_clause
positions: which, is_asking_tree, are_bars_of
homes: home, is_homing_tree, are_home_bars, begun_at
mending: mended, first_change, mended_along, lasts
budgets: budget, late_budget, within
spending: is_within, is_beyond, budget_paper
entries: is_stop_tree, exchanged
carrying: carried
atop: led, atop
fits: is_fit_table, fit
weakest: weakest
images: image
stacks: stacked
builders: built, are_bars
groups: together, is_together
bits: pack, unpack, filled
foretold: foretold
""".strip().split("\n")
CLASSES = {"learners": "Learner", "readers": "Reader", "desk": "Desk"}


def function(name):
    module, _, word = name.partition(".")
    return getattr(importlib.import_module("saidandasked." + module), word)


class Conventions(unittest.TestCase):
    def test_interface(self):
        names = [f"{module}.{name}" for module, _, told in (line.partition(": ") for line in INTERFACE)
                 for name in told.split(", ")]
        self.assertEqual(sorted(names), sorted(TABLE))
        self.assertEqual(len(names), 162)
        for module, name in CLASSES.items():
            told = getattr(importlib.import_module("saidandasked." + module), name)
            self.assertTrue(inspect.isclass(told))
            self.assertEqual(told.__module__, "saidandasked." + module)
        package = importlib.import_module("saidandasked")
        self.assertEqual([name for name in vars(package) if name in names], [])
        self.assertEqual(importlib.import_module("saidandasked.words").KEPT, tuple(sorted(plain.KEPT)))

    def test_names(self):
        for name, told in TABLE.items():
            asked = function(name)
            self.assertTrue(inspect.isfunction(asked), name)
            self.assertEqual(asked.__module__, "saidandasked." + name.partition(".")[0])
            self.assertEqual(list(inspect.signature(asked).parameters), [word for word, _, _ in told], name)

    def test_by_position_and_by_name(self):
        for name, told in TABLE.items():
            asked = function(name)
            values = [copy.deepcopy(value) for _, value, _ in told]
            before = copy.deepcopy(values)
            one = asked(*values)
            self.assertEqual(one, asked(**{word: value for word, value, _ in reversed(told)}), name)
            for at in range(len(told) + 1):
                rest = {word: value for word, value, _ in told[at:]}
                self.assertEqual(one, asked(*values[:at], **rest), name)
            self.assertEqual(values, before, name)
            self.assertEqual(repr(values), repr(before), name)
            self.assertEqual(repr(one), repr(asked(*values)), name)

    def test_judged_values(self):
        for name, told in TABLE.items():
            if told[-1][2] is None:
                values = [value for _, value, _ in told]
                self.assertIs(type(function(name)(*values)), bool, name)
                for thing in ODD:
                    before = repr(thing)
                    self.assertIs(type(function(name)(*values[:-1], thing)), bool, name)
                    self.assertEqual(repr(thing), before)

    def wrong_ones(self, name, told, at):
        """Values that are wrong for the parameter with the index at, all others being good."""
        values = [value for _, value, _ in told]
        found = []
        for thing in ODD:
            if told[at][0] == "k" and type(thing) is int and thing > 20:
                continue
            try:
                function(name)(*values[:at], thing, *values[at + 1:])
            except errors.PageError as error:
                if type(error).__name__ == told[at][2]:
                    found.append(thing)
        return found

    def test_errors_from_left_to_right(self):
        for name, told in TABLE.items():
            values = [value for _, value, _ in told]
            for at, (_, _, error) in enumerate(told):
                if error is None:
                    continue
                wrong = self.wrong_ones(name, told, at)
                self.assertGreater(len(wrong), 30, name)
                for other in (None, {}, "never", -1, [[]]):
                    for thing in wrong[::3]:
                        with self.assertRaises(getattr(errors, error), msg=name):
                            function(name)(*values[:at], thing, *[other for _ in values[at + 1:]])

    def test_other_houses_come_last(self):
        rule = ("law", TURNED, 1, (("true",),))
        free, turned = ("document", samples.TWO, ()), ("document", TURNED, ())
        one, two = samples.ring(samples.TWO, 1, ()), samples.ring(TURNED, 1, ())
        laws, pairs = ("law", TURNED, 1, (("false",),)), (free, turned)
        cases = [(name, pairs) for name in (
            "meanings.alike", "meanings.disputed", "narrow.apart", "narrow.narrowing", "meets.both", "meets.either",
            "meets.mixing", "meets.mixing_place")]
        cases += [(name, (free, rule)) for name in ("verdicts.law_verdict", "chains.true_from")]
        cases += [("covers.cover", (free, (turned,))), ("covers.escape", (free, (free, turned))),
                  ("covers.is_cover", (free, (turned,), ())), ("covers.is_escape", (free, (turned,), ())),
                  ("narrow.is_narrowing", (free, turned, ())), ("verdicts.is_law_verdict", (free, laws, ())),
                  ("durations.most_steps", (free, laws, 3)), ("chains.ends", (free, laws, ())),
                  ("chains.then", (("law", samples.TWO, 1, (("true",),)), laws)),
                  ("readings.read_by", (free, two)), ("readings.follower", (free, two)),
                  ("halves.halves", (free, (), (laws,))), ("halves.is_halves", (free, (), (laws,), ())),
                  ("halves.reasons", (free, laws)), ("lawmaking.fair", (free, laws)),
                  ("suites.first_break", (free, (), two)),
                  ("learners.learn", (free, two)), ("mending.mended", (free, two)), ("mending.first_change", (free, two)),
                  ("mending.mended_along", ([free, free], two)), ("mending.lasts", ([free, turned], one)),
                  ("budgets.budget", (free, two)), ("budgets.late_budget", (free, two)),
                  ("budgets.within", (free, two, 3)), ("spending.is_within", (free, two, 3, ())),
                  ("spending.is_beyond", (free, two, 3, ())), ("spending.budget_paper", (free, two, 3)),
                  ("entries.is_stop_tree", (free, two, 3, ())), ("entries.exchanged", (free, two, 3)),
                  ("atop.led", (OUTER, two, ("c",))), ("atop.atop", (OUTER, two)),
                  ("fits.fit", (OUTER, free, WANTED)), ("fits.fit", (OUTER, STORE_DOC, free)),
                  ("fits.is_fit_table", (OUTER, free, WANTED, ())), ("fits.is_fit_table", (OUTER, STORE_DOC, free, ())),
                  ("weakest.weakest", (OUTER, free)), ("images.image", (OUTER, free)), ("stacks.stacked", (OUTER, OUTER)),
                  ("builders.built", (free, WANTED)), ("builders.built", (STORE_DOC, free)),
                  ("builders.are_bars", (free, WANTED, ())), ("bits.pack", (free, two)),
                  ("pools.enough", (free, (), turned)), ("pools.silent", (free, (), turned)),
                  ("normals.parting", (one, two)), ("normals.likeness", (one, two)),
                  ("normals.is_likeness", (one, two, ())), ("rights.verdict", (free, two)),
                  ("rights.is_right_table", (free, two, ())), ("opponents.broken_by", (free, two)),
                  ("runs.run", (one, rule, ())), ("runs.asked", (one, rule, ())),
                  ("overs.over", (one, rule)), ("overs.is_table", (one, rule, ()))]
        for name, values in cases:
            with self.assertRaises(errors.OtherHouse):
                function(name)(*values)
            for at, (_, _, error) in enumerate(TABLE[name]):
                if error is not None:
                    with self.assertRaises(getattr(errors, error)):
                        function(name)(*values[:at], None, *values[at + 1:])

    def test_lists_are_taken_for_tuples_only_where_lists_are_told(self):
        for name, told in TABLE.items():
            values = [value for _, value, _ in told]
            for at, (_, value, error) in enumerate(told):
                if isinstance(value, list):
                    for kind in (list, tuple):
                        self.assertEqual(function(name)(*values[:at], kind(value), *values[at + 1:]),
                                         function(name)(*values), name)
                elif isinstance(value, tuple) and error is not None:
                    with self.assertRaises(getattr(errors, error), msg=name):
                        function(name)(*values[:at], list(value), *values[at + 1:])
                elif isinstance(value, tuple):
                    self.assertIs(function(name)(*values[:at], list(value)), False, name)


if __name__ == "__main__":
    unittest.main()
