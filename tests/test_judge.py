import unittest

from eachcut.errors import CutError
from eachcut.judge import cut_holds, history_holds, is_right, is_right_at, judge_cut, judge_history
from helper import (
    ADDS, CELLS, MANY, ODD, SMALL, TABLES, all_histories, both_ways, certifies_by_words, drawn_cases,
    history_certifies_by_words, is_caught_by_words, is_right_at_by_words, kept_by_words, long_history, raises,
    rejects_others, run_examples, variants,
)

EMPTY = ((), ())
SETS = (("do", 1, "set"), ("do", 2, "set"), ("keep", 2), ("keep", 1))
# At its end the two transactions are in a ring.
ROUND = (("do", 1, "set"), ("do", 2, "set"), ("do", 1, "get"), ("keep", 1), ("keep", 2))
# At its end three transactions are in a ring: 1 before 2 before 3 before 1; and 4 is in none.
LOOP = (("x", "y", "z"), (("x", "x"), ("y", "y"), ("z", "z")))
THREE = (
    ("do", 1, "x"), ("do", 2, "x"), ("do", 2, "y"), ("do", 3, "y"), ("do", 3, "z"), ("do", 1, "z"), ("do", 4, "x"),
    ("keep", 4), ("keep", 3), ("keep", 2), ("keep", 1),
)
# Conflicting steps of one transaction, taken back in the wrong order.
OWN = (("do", 1, "get"), ("do", 1, "get"), ("drop", 1), ("back", 1, 0), ("back", 1, 1))

EXAMPLES = r"""
>>> from eachcut.judge import cut_holds, is_right, is_right_at, judge_cut, judge_history
>>> CELLS = (("add", "get", "set"), (("add", "get"), ("add", "set"), ("get", "set"), ("set", "set")))
>>> ADDS = (("do", 1, "add"), ("do", 2, "add"), ("drop", 1), ("back", 1, 0), ("keep", 2))
>>> SETS = (("do", 1, "set"), ("do", 2, "set"), ("keep", 2), ("keep", 1))
>>> [is_right(CELLS, ADDS), cut_holds(CELLS, ADDS, 4, ("steps", (), (("swap", 1), ("strike", 0), ("strike", 0)))), judge_history(CELLS, ADDS), judge_cut(CELLS, SETS, 3), judge_history(CELLS, SETS), is_right_at(CELLS, SETS, 4)]
[True, True, ('right',), ('caught', 0, 1), ('wrong', 3, ('caught', 0, 1)), True]
>>> ROUND = (("do", 1, "set"), ("do", 2, "set"), ("do", 1, "get"), ("keep", 1), ("keep", 2))
>>> [judge_cut(CELLS, ROUND, 5)[0], cut_holds(CELLS, ROUND, 5, ("ring", (2, 1))), judge_history(CELLS, ROUND)]
['ring', True, ('wrong', 4, ('caught', 1, 2))]
"""


class Judged(unittest.TestCase):
    def check_cut(self, table, history, p):
        """Tests what is said of a cut, and returns the certificate."""
        certificate = judge_cut(table, history, p)
        self.assertIs(True, certifies_by_words(table, history, p, certificate), (history, p, certificate))
        self.assertIs(True, cut_holds(table, history, p, certificate), (history, p, certificate))
        right = is_right_at_by_words(table, history, p)
        self.assertIs(right, is_right_at(table, history, p), (history, p))
        self.assertIs(right, certificate[0] == "steps")
        return certificate

    def check_history(self, table, history):
        """Tests what is said of a history and of all its cuts."""
        certificate = judge_history(table, history)
        self.assertIs(True, history_certifies_by_words(table, history, certificate), (history, certificate))
        self.assertIs(True, history_holds(table, history, certificate), (history, certificate))
        self.assertIs(certificate == ("right",), is_right(table, history))
        self.assertIs(certificate == ("right",), history_holds(table, history, ("right",)))
        cuts = [self.check_cut(table, history, p)[0] for p in range(len(history) + 1)]
        wrong = [p for p, kind in enumerate(cuts) if kind != "steps"]
        if certificate == ("right",):
            self.assertEqual([], wrong)
        else:
            self.assertEqual((wrong[0], "caught"), (certificate[1], cuts[wrong[0]]))
            self.assertEqual("caught", certificate[2][0])


class TestJudge(Judged):
    def test_examples(self):
        run_examples(self, EXAMPLES)

    def test_by_both_ways(self):
        self.assertEqual(("caught", 0, 1), both_ways("judge_cut", CELLS, SETS, 3))
        self.assertEqual(("steps", (1, 2), ()), both_ways("judge_cut", CELLS, SETS, 4))
        self.assertIs(False, both_ways("is_right_at", CELLS, SETS, 3))
        self.assertIs(True, both_ways("is_right_at", CELLS, SETS, 2))
        self.assertIs(True, both_ways("cut_holds", CELLS, SETS, 3, ("caught", 0, 1)))
        self.assertIs(False, both_ways("cut_holds", CELLS, SETS, 2, ("caught", 0, 1)))
        self.assertEqual(("wrong", 3, ("caught", 0, 1)), both_ways("judge_history", CELLS, SETS))
        self.assertIs(True, both_ways("history_holds", CELLS, SETS, ("wrong", 3, ("caught", 0, 1))))
        self.assertIs(False, both_ways("history_holds", CELLS, SETS, ("right",)))
        self.assertIs(False, both_ways("is_right", CELLS, SETS))
        self.assertIs(True, both_ways("is_right", CELLS, SETS[:2]))

    def test_empty(self):
        for table in (EMPTY, CELLS):
            self.assertEqual(("steps", (), ()), both_ways("judge_cut", table, (), 0))
            self.assertIs(True, both_ways("cut_holds", table, (), 0, ("steps", (), ())))
            self.assertIs(True, both_ways("is_right_at", table, (), 0))
            self.assertEqual(("right",), both_ways("judge_history", table, ()))
            self.assertIs(True, both_ways("history_holds", table, (), ("right",)))
            self.assertIs(True, both_ways("is_right", table, ()))

    def test_first_and_last_cut(self):
        for history in (ADDS, SETS, ROUND, OWN):
            self.assertIs(True, both_ways("cut_holds", CELLS, history, 0, ("steps", (), ())))
            self.assertIs(False, both_ways("cut_holds", CELLS, history, 0, ("steps", (1,), ())))
            self.assertIs(True, both_ways("is_right_at", CELLS, history, 0))
        self.assertEqual("ring", self.check_cut(CELLS, ROUND, 5)[0])
        self.assertEqual(("steps", (1, 2)), self.check_cut(CELLS, SETS, 4)[:2])
        self.assertEqual("caught", self.check_cut(CELLS, OWN, 5)[0])
        self.assertEqual(("steps", (2,)), self.check_cut(CELLS, ADDS, 5)[:2])

    def test_all_short_histories(self):
        for table in TABLES:
            for history in all_histories(4 if table != SMALL else 5):
                self.check_history(table, history)

    def test_drawn_histories(self):
        found = {"caught": 0, "ring": 0, "steps": 0}
        for table, history in drawn_cases(200, (8, 12, 20)):
            self.check_history(table, history)
            for p in range(len(history) + 1):
                found[judge_cut(table, history, p)[0]] += 1
        self.assertTrue(all(found.values()), found)

    def test_conditions(self):
        """Condition (a), condition (b), and the steps that are not part of them."""
        start = (("do", 1, "set"), ("do", 2, "set"))
        free = (("do", 1, "add"), ("do", 2, "add"))
        for history, expected in (
            (start + (("keep", 2),), ("wrong", 3, ("caught", 0, 1))),
            (start + (("keep", 1), ("keep", 2)), ("right",)),
            (start + (("drop", 1), ("back", 1, 0)), ("wrong", 4, ("caught", 0, 1))),
            (start + (("drop", 1), ("drop", 2), ("back", 2, 1), ("back", 1, 0)), ("right",)),
            (start + (("drop", 1), ("drop", 2), ("back", 1, 0), ("back", 2, 1)), ("wrong", 5, ("caught", 0, 1))),
            (start + (("drop", 2), ("back", 2, 1), ("keep", 1)), ("right",)),
            (start + (("drop", 1),), ("right",)),
            (start[:1] + (("drop", 1), ("back", 1, 0)) + start[1:] + (("keep", 2),), ("right",)),
            (start[:1] + (("drop", 1),) + start[1:] + (("keep", 2),), ("wrong", 4, ("caught", 0, 2))),
            (start[:1] + (("keep", 1),) + start[1:] + (("drop", 2), ("back", 2, 2)), ("right",)),
            (free + (("keep", 2), ("drop", 1), ("back", 1, 0)), ("right",)),
            (free + (("do", 2, "set"), ("keep", 2)), ("wrong", 4, ("caught", 0, 2))),
            ((("do", 1, "add"), ("do", 1, "add"), ("drop", 1), ("back", 1, 1), ("back", 1, 0)), ("right",)),
            (OWN, ("wrong", 4, ("caught", 0, 1))),
            ((("do", 1, "get"), ("do", 2, "get"), ("keep", 2)), ("right",)),
        ):
            self.assertEqual(expected, both_ways("judge_history", CELLS, history), history)
            self.check_history(CELLS, history)

    def test_a_kind_that_conflicts_with_itself(self):
        history = (("do", 1, "a"), ("do", 2, "a"), ("keep", 2))
        self.assertEqual(("right",), judge_history(SMALL, history))
        table = (("a", "b"), (("a", "a"),))
        self.assertEqual(("wrong", 3, ("caught", 0, 1)), judge_history(table, history))
        self.assertEqual(("caught", 0, 1), judge_cut(table, history, 3))

    def test_all_ended_alike(self):
        start = (("do", 1, "set"), ("do", 2, "get"), ("do", 3, "add"), ("do", 3, "set"))
        keeps = (("keep", 1), ("keep", 2), ("keep", 3))
        drops = (("drop", 1), ("drop", 2), ("drop", 3))
        backs = (("back", 3, 3), ("back", 3, 2), ("back", 2, 1), ("back", 1, 0))
        for history in (start + keeps, start + drops, start + drops + backs):
            self.assertEqual(("right",), judge_history(CELLS, history))
            self.check_history(CELLS, history)
        self.assertEqual((1, 2, 3), judge_cut(CELLS, start + keeps, 7)[1])
        self.assertEqual((), judge_cut(CELLS, start + drops + backs, 11)[1])
        for history in (start + keeps[::-1], start + drops + backs[::-1]):
            self.assertEqual("wrong", judge_history(CELLS, history)[0])
            self.check_history(CELLS, history)

    def test_rings(self):
        self.check_history(LOOP, THREE)
        self.assertEqual("ring", judge_cut(LOOP, THREE, 11)[0])
        for ring in ((1, 2, 3), (2, 3, 1), (3, 1, 2)):
            self.assertIs(True, both_ways("cut_holds", LOOP, THREE, 11, ("ring", ring)))
        for ring in (
            (1, 3, 2), (1, 2), (2, 3), (1,), (), (1, 2, 3, 1), (1, 2, 3, 4), (1, 4), (4,), [1, 2, 3], (1, 2, "3"),
            (True, 2, 3), (1, 2, 3.0), (1, 2, (3,)), (1, 2, 3, 1, 2, 3), (0, 1), (1, 2, None), ((1, 2, 3),), 3, None,
        ):
            self.assertIs(False, both_ways("cut_holds", LOOP, THREE, 11, ("ring", ring)), ring)
        self.assertIs(False, cut_holds(LOOP, THREE, 10, ("ring", (1, 2, 3))))
        self.assertIs(True, cut_holds(CELLS, ROUND, 5, ("ring", (1, 2))))
        self.assertIs(False, cut_holds(CELLS, ROUND, 4, ("ring", (1, 2))))

    def test_long_ring(self):
        kinds = tuple("abcdefgh")
        table = (kinds, tuple([(kind, kind) for kind in kinds]))
        steps = [("do", t, kinds[t]) for t in range(8)] + [("do", t, kinds[(t + 1) % 8]) for t in range(8)]
        history = tuple(steps + [("keep", t) for t in range(8)])
        name, ring = judge_cut(table, history, 24)
        self.assertEqual(("ring", list(range(8))), (name, sorted(ring)))
        self.assertIs(True, certifies_by_words(table, history, 24, (name, ring)))
        self.assertIs(True, cut_holds(table, history, 24, (name, ring)))
        self.assertIs(False, cut_holds(table, history, 24, (name, ring[::-1])))

    def test_caught_and_ring_at_one_cut(self):
        history = (("do", 3, "add"),) + ROUND
        self.assertIs(True, cut_holds(CELLS, history, 6, ("ring", (1, 2))))
        self.assertIs(True, cut_holds(CELLS, history, 6, ("caught", 0, 1)))
        self.assertIs(True, cut_holds(CELLS, history, 6, ("caught", 0, 3)))
        self.assertIs(False, cut_holds(CELLS, history, 6, ("caught", 1, 2)))
        self.check_history(CELLS, history)

    def test_every_pair_at_every_cut(self):
        for table, history in drawn_cases(40, (8, 12)):
            for p in range(len(history) + 1):
                for i in range(-1, len(history) + 1):
                    for j in range(-1, len(history) + 1):
                        expected = is_caught_by_words(table, history[:p], i, j)
                        self.assertIs(expected, cut_holds(table, history, p, ("caught", i, j)))

    def test_certificates_in_other_words(self):
        """Certificates that the judge does not return, but that are correct."""
        start = (("do", 1, "add"), ("do", 2, "add"), ("keep", 1), ("keep", 2))
        for order, steps in (((1, 2), ()), ((2, 1), (("swap", 0),)), ((1, 2), (("swap", 0), ("swap", 0)))):
            self.assertIs(True, both_ways("cut_holds", CELLS, start, 4, ("steps", order, steps)))
            self.assertIs(False, both_ways("cut_holds", CELLS, start, 4, ("steps", order[::-1], steps)))
        self.assertIs(False, cut_holds(CELLS, start, 4, ("steps", (1, 2), (("swap", 0),))))
        wrong = ((1,), (2,), (), (1, 2, 2), (1, 1, 2), (1, 2, 3), [1, 2], (True, 2), None, ("1", 2), (1, None), ({},))
        for order in wrong:
            self.assertIs(False, both_ways("cut_holds", CELLS, start, 4, ("steps", order, ())), order)
        self.assertIs(True, cut_holds(CELLS, start, 3, ("steps", (1,), (("strike", 1),))))
        self.assertIs(False, cut_holds(CELLS, start, 3, ("steps", (1,), (("strike", 1), ("strike", 0)))))
        self.assertIs(False, cut_holds(CELLS, start, 3, ("steps", (1, 2), (("strike", 1),))))

    def test_long_histories(self):
        table = (MANY, tuple([(kind, kind) for kind in MANY]))
        for seed in range(6):
            history = long_history(seed)
            self.assertEqual((200, 80), (len(history), len({event[1] for event in history})))
            certificate = both_ways("judge_history", table, history)
            self.assertIs(True, history_certifies_by_words(table, history, certificate))
            self.assertIs(True, both_ways("history_holds", table, history, certificate))
            self.assertIs(False, both_ways("is_right", table, history))
            self.assertIs(False, history_holds(table, history, ("right",)))
            right = history[:certificate[1] - 1]
            self.assertEqual(("right",), judge_history(table, right))
            self.assertIs(True, is_right(table, right))

    def test_long_right_histories(self):
        table = (MANY, tuple([(one, other) for one in MANY for other in MANY if one <= other]))
        steps = tuple([("do", at % 80, MANY[at % 36]) for at in range(80)])
        keeps = tuple([("keep", t) for t in range(80)])
        for history in (steps + keeps, steps + keeps[:20] + tuple([("drop", t) for t in range(20, 80)])):
            self.assertEqual(("right",), both_ways("judge_history", table, history))
            self.assertIs(True, both_ways("history_holds", table, history, ("right",)))
        drops = tuple([("drop", t) for t in range(40, 80)])
        backs = tuple([("back", t, t) for t in reversed(range(40, 80))])
        history = steps + drops + backs + keeps[:40]
        self.assertEqual((200, 80), (len(history), len({event[1] for event in history})))
        self.assertIs(True, both_ways("is_right", table, history))
        wrong = steps + drops + backs[1:] + backs[:1] + keeps[:40]
        self.assertEqual(("wrong", 121, ("caught", 78, 79)), both_ways("judge_history", table, wrong))
        wrong = steps + drops + backs + keeps[:38] + (keeps[39], keeps[38])
        self.assertEqual(("wrong", 199, ("caught", 38, 39)), both_ways("judge_history", table, wrong))

    def test_largest_cuts(self):
        kinds = ("a", "b", "c", "d", "e", "f", "g", "h", "i", "j", "k", "l")
        for conflicts in ((), (("a", "a"), ("a", "b"), ("c", "d")), tuple([(kind, kind) for kind in kinds])):
            steps = tuple([("do", at % 8, kinds[at * at % 12]) for at in range(28)])
            history = steps + tuple([(("keep", "drop")[t % 2], t) for t in range(8)])
            history += tuple([("back", history[i][1], i) for i in (27, 25, 23, 21)])
            self.assertEqual(40, len(history))
            for p in (0, 1, 28, 30, 36, 39, 40):
                self.check_cut((kinds, conflicts), history, p)


class TestWrongValues(Judged):
    def test_variants_of_cut_certificates(self):
        for table, history, p in (
            (CELLS, ADDS, 4), (CELLS, SETS, 3), (CELLS, SETS, 4), (CELLS, ROUND, 5), (CELLS, ROUND, 4),
            (LOOP, THREE, 11),
            (CELLS, OWN, 4), (CELLS, ADDS, 5),
        ):
            certificate = judge_cut(table, history, p)
            for thing in variants(certificate):
                expected = certifies_by_words(table, history, p, thing)
                self.assertIs(expected, cut_holds(table, history, p, thing), (history, p, thing))

    def test_variants_of_history_certificates(self):
        for history in (ADDS, SETS, ROUND, OWN, (), SETS[:2], SETS[:3]):
            certificate = judge_history(CELLS, history)
            for thing in variants(certificate):
                expected = history_certifies_by_words(CELLS, history, thing)
                self.assertIs(expected, history_holds(CELLS, history, thing), (history, thing))

    def test_no_certificate(self):
        wrong = ODD + (
            ("steps",), ("caught",), ("ring",), ("steps", ()), ("steps", (), (), ()), ["steps", (), ()], ("caught", 0),
            ("caught", (0, 1)), ("caught", 0, 1, 1), ["caught", 0, 1], ("ring", 1, 2), ("ring", ((1, 2),)), ("right",),
            ("wrong", 3, ("caught", 0, 1)), (None, 0, 1), ([], (1, 2)), ("Caught", 0, 1), ("caught", 1, 0),
            ("caught", "0", 1), ("caught", 0, 0), ("caught", 0, 2), ("caught", -2, 1), (("caught", 0, 1),), CutError(),
            ("caught", False, True), ("caught", 0, True), ("caught", [0], 1), ("caught", 0, {}), ("caught", None, 1),
            ("steps", 0, 1), ("ring", 0, 1), ("caught", (1, 2)), ("swap", 0, 1), ("strike", (1, 2)),
        )
        for thing in wrong:
            self.assertIs(False, both_ways("cut_holds", CELLS, SETS, 3, thing), thing)
            self.assertIs(False, both_ways("history_holds", CELLS, ROUND, thing), thing)

    def test_no_history_certificate(self):
        for thing in ODD + (
            ("right", ()), ["right"], "right", ("Right",), (("right",),), ("right", "right"), ("wrong",), (None,),
            ([],),
            ("wrong", 3), ("wrong", 3, ("caught", 0, 1), ()), ("caught", 0, 1), ("steps", (), ()), (True,), ({},),
        ):
            self.assertIs(False, both_ways("history_holds", CELLS, ADDS, thing), thing)
            self.assertIs(False, both_ways("history_holds", CELLS, SETS, thing), thing)
        for p, certificate in (
            (2, ("caught", 0, 1)), (4, ("caught", 0, 1)), ("3", ("caught", 0, 1)), (3, ["caught", 0, 1]),
            (3, ("caught", 0, 2)), (3, ("caught", 1, 0)), (3, ("ring", (1, 2))), (3, ("steps", (2,), ())), (3, None),
            (None, ("caught", 0, 1)), ((3,), ("caught", 0, 1)), ([3], ("caught", 0, 1)), (3, ()), (3, ("wrong", 0, 1)),
        ):
            self.assertIs(False, both_ways("history_holds", CELLS, SETS, ("wrong", p, certificate)), (p, certificate))
        self.assertIs(False, history_holds(CELLS, ROUND, ("wrong", 5, ("ring", (1, 2)))))
        for p in (True, False):
            self.assertIs(False, history_holds(CELLS, SETS, ("wrong", p, ("caught", 0, 1))))

    def test_no_table_or_history(self):
        calls = (
            ("judge_cut", (0,)), ("cut_holds", (0, ("steps", (), ()))), ("is_right_at", (0,)), ("judge_history", ()),
            ("history_holds", (("right",),)), ("is_right", ()),
        )
        for name, rest in calls:
            rejects_others(self, name, *rest)

    def test_no_cut(self):
        for thing in ODD + (6, -6, "0", (0,), [0], 10 ** 39):
            if type(thing) is int and 0 <= thing <= 5:
                continue
            raises(self, "BadCut", thing, "judge_cut", CELLS, ADDS, thing)
            raises(self, "BadCut", thing, "is_right_at", CELLS, ADDS, thing)
            raises(self, "BadCut", thing, "cut_holds", CELLS, ADDS, thing, ("steps", (), ()))

    def test_first_error(self):
        bad, worse, worst, last = [CELLS], {"no": "history"}, ("neither",), ["nor"]
        for name, rest in (("judge_cut", ()), ("is_right_at", ()), ("cut_holds", (last,))):
            raises(self, "BadTable", bad, name, bad, worse, worst, *rest)
            raises(self, "BadHistory", worse, name, CELLS, worse, worst, *rest)
            raises(self, "BadCut", worst, name, CELLS, ADDS, worst, *rest)
        for name, rest in (("judge_history", ()), ("is_right", ()), ("history_holds", (last,))):
            raises(self, "BadTable", bad, name, bad, worse, *rest)
            raises(self, "BadHistory", worse, name, CELLS, worse, *rest)

    def test_same_call_twice(self):
        for table, history in drawn_cases(20):
            self.assertEqual(judge_history(table, history), judge_history(table, history))
            for p in range(len(history) + 1):
                self.assertEqual(judge_cut(table, history, p), judge_cut(table, history, p))
                if judge_cut(table, history, p)[0] == "steps":
                    self.assertEqual(sorted(kept_by_words(history[:p])), sorted(judge_cut(table, history, p)[1]))


if __name__ == "__main__":
    unittest.main()
