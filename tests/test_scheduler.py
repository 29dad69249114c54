import unittest
from functools import cache

from eachcut.errors import CutError
from eachcut.judge import judge_history
from eachcut.scheduler import (
    allowed, doomed, finish, is_finish, judge_transaction, may_happen, next_steps, transaction_holds, waits_for,
)
from helper import (
    CELLS, ODD, SMALL, TABLES, all_histories, allowed_by_words, both_ways, candidates, doomed_by_words, drawn_cases,
    error_of, first_wrong_by_words, history_certifies_by_words, in_states, is_allowed_by_words, is_finish_by_words,
    is_possible_by_words, raises, rejects_others, run_examples, transaction_certifies_by_words, variants,
    waits_by_words,
)

EMPTY = ((), ())
OPEN = (("do", 1, "set"), ("do", 2, "set"), ("do", 3, "add"))
WRONG = (("do", 1, "set"), ("do", 2, "set"), ("keep", 2))
# 1 and 2 wait for each other, and 3 for both.
RING = (("do", 1, "set"), ("do", 2, "set"), ("do", 1, "get"), ("do", 3, "get"))
LOOP = (("x", "y", "z"), (("x", "x"), ("y", "y"), ("z", "z")))
# 1, 2 and 3 wait for each other in a ring, and 4 for 1 and 2.
THREE = (
    ("do", 1, "x"), ("do", 2, "x"), ("do", 2, "y"), ("do", 3, "y"), ("do", 3, "z"), ("do", 1, "z"), ("do", 4, "x"),
)
# 8 transactions and 40 events: each of the first four is waited for by the next ones.
LARGEST = tuple([("do", at % 8, ("get", "add", "set", "get")[at // 8]) for at in range(32)]) + (
    ("drop", 7), ("back", 7, 31), ("do", 5, "get"), ("drop", 6), ("do", 4, "add"), ("do", 3, "get"), ("drop", 5),
    ("do", 2, "set"),
)
NAMES = (
    ("may_happen", 1), ("allowed", 0), ("waits_for", 0), ("doomed", 0), ("judge_transaction", 1),
    ("transaction_holds", 2), ("finish", 0), ("is_finish", 1), ("next_steps", 0),
)

EXAMPLES = r"""
>>> from eachcut.scheduler import allowed, doomed, is_finish, judge_transaction, may_happen, next_steps, transaction_holds, waits_for
>>> CELLS = (("add", "get", "set"), (("add", "get"), ("add", "set"), ("get", "set"), ("set", "set")))
>>> OPEN = (("do", 1, "set"), ("do", 2, "set"), ("do", 3, "add"))
>>> [allowed(CELLS, OPEN), waits_for(CELLS, OPEN), doomed(CELLS, OPEN), doomed(CELLS, OPEN + (("drop", 1),)), next_steps(CELLS, OPEN + (("drop", 1),))]
[(('drop', 1), ('drop', 2), ('drop', 3), ('keep', 1)), ((2, 1), (3, 1), (3, 2)), (), (2, 3), ()]
>>> [judge_transaction(CELLS, OPEN, 2), transaction_holds(CELLS, OPEN + (("drop", 1),), 3, ("doomed", (3, 2, 1))), may_happen(CELLS, OPEN, ("keep", 2)), may_happen(CELLS, OPEN, ("do", 2, "get"))]
[('free', (1, 2)), True, False, True]
>>> is_finish(CELLS, OPEN + (("drop", 2),), (("drop", 3), ("back", 3, 2), ("back", 2, 1), ("keep", 1)))
True
"""


def right_histories(table, most):
    return [history for history in all_histories(most) if first_wrong_by_words(table, history) is None]


@cache
def kept_at_ends(table, history, more):
    """The sets of kept transactions in all right continuations, with at most so many further steps."""
    found = {frozenset([event[1] for event in history if event[0] == "keep"])}
    for event in candidates(len(history)):
        if is_allowed_by_words(table, history, event) and (event[0] != "do" or more):
            found |= kept_at_ends(table, history + (event,), more - (event[0] == "do"))
    return found


class TestScheduler(unittest.TestCase):
    def test_examples(self):
        run_examples(self, EXAMPLES)

    def check_history(self, table, history):
        """Tests all that is said of a history that is right at every cut."""
        events = allowed_by_words(table, history)
        self.assertEqual(events, allowed(table, history))
        steps = sorted([event[2] for event in events if event[0] == "back"])
        self.assertEqual(tuple(steps), next_steps(table, history))
        self.assertEqual(waits_by_words(table, history), waits_for(table, history))
        lost = doomed_by_words(table, history)
        self.assertEqual(lost, doomed(table, history))
        if in_states(history, "dropping") and not next_steps(table, history):
            self.assertNotEqual((), lost)
        for u in in_states(history, "active"):
            certificate = judge_transaction(table, history, u)
            self.assertEqual("doomed" if u in lost else "free", certificate[0])
            self.assertIs(True, transaction_certifies_by_words(table, history, u, certificate), (history, certificate))
            self.assertIs(True, transaction_holds(table, history, u, certificate), (history, certificate))
        self.check_finish(table, history)

    def check_finish(self, table, history):
        events = finish(table, history)
        self.assertIs(True, is_finish_by_words(table, history, events), (history, events))
        self.assertIs(True, is_finish(table, history, events), (history, events))
        loose = in_states(history, "active", "dropping")
        steps = [i for i, event in enumerate(history) if event[0] == "do" and event[1] in loose]
        left = [i for i in steps if ("back", history[i][1], i) not in history]
        self.assertLessEqual(len(events), len(loose) + len(left))
        self.assertEqual(events == (), is_finish(table, history, ()))

    def check_event(self, table, history, event):
        expected = is_allowed_by_words(table, history, event)
        self.assertIs(expected, may_happen(table, history, event), (history, event))
        if is_possible_by_words(table[0], history, event) and event[0] in ("do", "drop"):
            self.assertIs(True, may_happen(table, history, event), (history, event))

    def test_empty(self):
        for table in (EMPTY, CELLS):
            for name in ("allowed", "waits_for", "doomed", "finish", "next_steps"):
                self.assertEqual((), both_ways(name, table, ()))
            self.assertIs(True, both_ways("is_finish", table, (), ()))
            self.assertIs(False, both_ways("is_finish", table, (), (("do", 1, "set"),)))
            self.assertIs(False, both_ways("may_happen", table, (), ("keep", 1)))
            raises(self, "BadTransaction", 1, "judge_transaction", table, (), 1)
        self.assertIs(True, both_ways("may_happen", CELLS, (), ("do", 0, "set")))
        self.assertIs(False, both_ways("may_happen", EMPTY, (), ("do", 0, "set")))

    def test_all_short_histories(self):
        for table in TABLES:
            for history in right_histories(table, 4 if table in (SMALL, TABLES[-1]) else 3):
                self.check_history(table, history)
                for event in candidates(len(history) + 1):
                    self.check_event(table, history, event)

    def test_drawn_histories(self):
        found = {}
        for table, history in drawn_cases(200, (8, 12, 20)):
            if first_wrong_by_words(table, history) is not None:
                self.check_not_right(table, history)
                continue
            self.check_history(table, history)
            for t in range(9):
                for event in (("keep", t), ("drop", t), ("do", t, "a")):
                    self.check_event(table, history, event)
            many = len(doomed(table, history))
            found[many] = found.get(many, 0) + 1
        self.assertLess(5, sum([many for doomed_ones, many in found.items() if doomed_ones]))

    def check_not_right(self, table, history):
        for name, many in NAMES:
            raises(self, "NotRight", judge_history(table, history), name, table, history, *[()] * many)

    def test_doomed_ones_are_never_kept(self):
        """Also with a further step in continuations; and all others can be kept together."""
        for table in (SMALL, TABLES[-1]):
            for history in right_histories(table, 4):
                before = {event[1] for event in history if event[0] == "keep"}
                lost = set(doomed(table, history))
                for kept in kept_at_ends(table, history, 1) if lost else ():
                    self.assertFalse(lost & kept, (history, kept))
                free = set(in_states(history, "active")) - lost
                self.assertIn(before | free, kept_at_ends(table, history, 0))

    def test_by_both_ways(self):
        more = OPEN + (("drop", 1),)
        self.assertIs(True, both_ways("may_happen", CELLS, OPEN, ("keep", 1)))
        self.assertIs(False, both_ways("may_happen", CELLS, OPEN, ("keep", 3)))
        self.assertEqual((("drop", 2), ("drop", 3)), both_ways("allowed", CELLS, more))
        self.assertEqual(((2, 1), (3, 1), (3, 2)), both_ways("waits_for", CELLS, more))
        self.assertEqual((2, 3), both_ways("doomed", CELLS, more))
        self.assertEqual(("free", (1,)), both_ways("judge_transaction", CELLS, OPEN, 1))
        self.assertIs(True, both_ways("transaction_holds", CELLS, OPEN, 3, ("free", (1, 2, 3))))
        self.assertIs(False, both_ways("transaction_holds", CELLS, OPEN, 3, ("free", (2, 1, 3))))
        self.assertIs(True, both_ways("is_finish", CELLS, OPEN, both_ways("finish", CELLS, OPEN)))
        self.assertEqual((), both_ways("next_steps", CELLS, more))
        dropping = OPEN + (("drop", 3),)
        self.assertEqual((2,), both_ways("next_steps", CELLS, dropping))
        expected = (("back", 3, 2), ("drop", 1), ("drop", 2), ("keep", 1))
        self.assertEqual(expected, both_ways("allowed", CELLS, dropping))

    def test_order_of_allowed_events(self):
        """Backs are sorted by the transaction first, next steps by the position."""
        history = tuple([("do", t, "add") for t in (12, 3, 12, 3)]) + (("drop", 12), ("drop", 3), ("do", 5, "add"))
        itself = (("add",), ())
        expected = (("back", 3, 3), ("back", 12, 2), ("drop", 5), ("keep", 5))
        self.assertEqual(expected, both_ways("allowed", itself, history))
        self.assertEqual((2, 3), both_ways("next_steps", itself, history))
        free = (("do", 12, "add"), ("do", 3, "add"), ("drop", 12), ("drop", 3))
        self.assertEqual((("back", 3, 1), ("back", 12, 0)), both_ways("allowed", itself, free))
        self.assertEqual((0, 1), both_ways("next_steps", itself, free))

    def test_waiting(self):
        start = (("do", 1, "add"), ("do", 2, "get"))
        self.assertEqual(((2, 1),), both_ways("waits_for", CELLS, start))
        self.assertEqual(((2, 1),), both_ways("waits_for", CELLS, start + (("drop", 1),)))
        self.assertEqual(((2, 1),), both_ways("waits_for", CELLS, start + (("drop", 2),)))
        self.assertEqual((), both_ways("waits_for", CELLS, start + (("keep", 1),)))
        self.assertEqual((), both_ways("waits_for", CELLS, start + (("drop", 2), ("back", 2, 1))))
        gone = start[:1] + (("drop", 1), ("back", 1, 0)) + start[1:]
        self.assertEqual((), both_ways("waits_for", CELLS, gone))
        partly = (("do", 2, "add"), ("do", 1, "add"), ("do", 2, "get"), ("drop", 2))
        self.assertEqual(((2, 1),), both_ways("waits_for", CELLS, partly))
        self.assertEqual((), both_ways("waits_for", CELLS, partly + (("back", 2, 2),)))
        free = (("do", 1, "add"), ("do", 2, "add"))
        self.assertEqual((), both_ways("waits_for", CELLS, free))
        self.assertEqual(((1, 2),), both_ways("waits_for", CELLS, free + (("do", 1, "get"),)))
        self.assertEqual(((1, 2), (2, 1), (3, 1), (3, 2)), both_ways("waits_for", CELLS, RING))
        self.assertEqual(((1, 3), (2, 1), (3, 2), (4, 1), (4, 2)), both_ways("waits_for", LOOP, THREE))

    def test_order_of_waiting_pairs(self):
        history = tuple([("do", t, "set") for t in (10, 8, 3, 65, 16, 0)])
        expected = tuple([
            (0, 3), (0, 8), (0, 10), (0, 16), (0, 65), (3, 8), (3, 10), (8, 10), (16, 3), (16, 8), (16, 10), (16, 65),
            (65, 3), (65, 8), (65, 10),
        ])
        self.assertEqual(expected, both_ways("waits_for", CELLS, history))
        self.assertEqual((0, 3, 8, 16, 65), both_ways("doomed", CELLS, history + (("drop", 10),)))

    def test_rings(self):
        self.check_history(CELLS, RING)
        self.assertEqual((1, 2, 3), both_ways("doomed", CELLS, RING))
        self.assertEqual((1, 2), both_ways("doomed", CELLS, RING[:3]))
        self.check_history(LOOP, THREE)
        self.assertEqual((1, 2, 3, 4), both_ways("doomed", LOOP, THREE))
        self.assertEqual((), both_ways("doomed", LOOP, THREE[:5]))
        for u, chain in (
            (1, (1, 3, 2, 1)), (2, (2, 1, 3, 2)), (3, (3, 2, 1, 3)), (4, (4, 1, 3, 2, 1)), (4, (4, 2, 1, 3, 2)),
            (1, (1, 3, 2, 1, 3)), (4, (4, 1, 3, 2, 1, 3, 2, 1)),
        ):
            self.assertIs(True, both_ways("transaction_holds", LOOP, THREE, u, ("doomed", chain)), chain)
            self.assertIs(False, both_ways("transaction_holds", LOOP, THREE, u, ("free", chain)), chain)
            self.assertIs(False, both_ways("transaction_holds", LOOP, THREE[:5], 3, ("doomed", chain)), chain)
        for u, chain in (
            (1, (1, 2, 3, 1)), (1, (1, 3, 2)), (1, (3, 2, 1, 3)), (4, (4, 1)), (4, (1, 3, 2, 1)), (4, (4, 3, 2, 1, 3)),
            (1, (1, 1)), (1, (1,)), (1, ()), (4, (4, 4)), (1, (1, 3, 2, 1, 1)), (1, (1, 3, 3)), (1, (True, 3, 2, 1)),
            (1, (1, 3, 2, True)), (1, [1, 3, 2, 1]), (1, (1, 3, 9, 1)), (1, (1, 3, None, 1)),
        ):
            self.assertIs(False, both_ways("transaction_holds", LOOP, THREE, u, ("doomed", chain)), chain)

    def test_doomed_by_dropping_ones(self):
        history = OPEN + (("drop", 1), ("do", 4, "add"), ("do", 5, "get"))
        self.check_history(CELLS, history)
        for chain in ((5, 1), (5, 3, 1), (5, 4, 2, 1), (5, 4, 1), (5, 2, 1)):
            self.assertIs(True, both_ways("transaction_holds", CELLS, history, 5, ("doomed", chain)), chain)
        for chain in ((5, 4), (5, 4, 3, 1), (5,), (1, 5), (5, 1, 1), (5, 1, 2), (4, 1), (5, 5, 1), (5, 3)):
            self.assertIs(False, both_ways("transaction_holds", CELLS, history, 5, ("doomed", chain)), chain)
        between = (("do", 1, "set"), ("do", 2, "set"), ("do", 3, "set"), ("drop", 1), ("drop", 2))
        self.assertIs(True, both_ways("transaction_holds", CELLS, between, 3, ("doomed", (3, 2, 1))))
        self.assertIs(True, both_ways("transaction_holds", CELLS, between, 3, ("doomed", (3, 2))))
        gone = OPEN[:1] + (("drop", 1), ("back", 1, 0)) + OPEN[1:]
        self.assertEqual((), both_ways("doomed", CELLS, gone))
        self.assertEqual(("free", (2, 3)), both_ways("judge_transaction", CELLS, gone, 3))
        self.assertIs(False, both_ways("transaction_holds", CELLS, gone, 3, ("doomed", (3, 2, 1))))

    def test_free_orders(self):
        history = OPEN + (("do", 4, "add"), ("keep", 1))
        for order in ((2, 3), (2, 4, 3)):
            self.assertIs(True, both_ways("transaction_holds", CELLS, history, 3, ("free", order)), order)
            self.assertIs(False, both_ways("transaction_holds", CELLS, history, 3, ("doomed", order)), order)
        for order in (
            (1, 2, 3), (3,), (3, 2), (4, 2, 3), (2, 3, 4), (2,), (), (2, 2, 3), (2, 3, 3), (2, 9, 3), [2, 3], ((2, 3),),
            (2, "3"), (2, None, 3), (2, [], 3), 3, None, (2, (3,)), (2, 3, True),
        ):
            self.assertIs(False, both_ways("transaction_holds", CELLS, history, 3, ("free", order)), order)
        one = (("do", 1, "add"), ("do", 0, "add"))
        self.assertIs(True, both_ways("transaction_holds", CELLS, one, 1, ("free", (1,))))
        self.assertIs(True, both_ways("transaction_holds", CELLS, one, 1, ("free", (0, 1))))
        self.assertIs(False, both_ways("transaction_holds", CELLS, one, 1, ("free", (0, True))))
        self.assertIs(False, both_ways("transaction_holds", CELLS, one, 1, ("free", (False, 1))))
        self.assertIs(False, both_ways("transaction_holds", CELLS, one, 1, ("free", (1, 0))))

    def test_all_ended(self):
        start = (("do", 1, "set"), ("do", 2, "get"))
        for ends in (
            (("keep", 1), ("keep", 2)), (("drop", 2), ("back", 2, 1), ("drop", 1), ("back", 1, 0)),
            (("drop", 2), ("back", 2, 1), ("keep", 1)),
        ):
            history = start + ends
            self.check_history(CELLS, history)
            self.assertEqual((), both_ways("allowed", CELLS, history))
            self.assertEqual((), both_ways("finish", CELLS, history))
            self.assertIs(True, both_ways("is_finish", CELLS, history, ()))
            self.assertIs(True, both_ways("may_happen", CELLS, history, ("do", 3, "set")))
            self.assertIs(False, both_ways("may_happen", CELLS, history, ("do", 1, "set")))
            raises(self, "BadTransaction", 1, "judge_transaction", CELLS, history, 1)
        history = start + (("drop", 2), ("drop", 1))
        self.check_history(CELLS, history)
        self.assertEqual((("back", 2, 1),), both_ways("allowed", CELLS, history))
        self.assertEqual((1,), both_ways("next_steps", CELLS, history))
        self.assertEqual((("back", 2, 1), ("back", 1, 0)), both_ways("finish", CELLS, history))

    def test_steps_of_one_transaction(self):
        history = (("do", 1, "add"), ("do", 1, "add"), ("drop", 1))
        self.assertEqual((1,), both_ways("next_steps", CELLS, history))
        self.assertIs(False, both_ways("may_happen", CELLS, history, ("back", 1, 0)))
        self.assertIs(True, both_ways("may_happen", CELLS, history, ("back", 1, 1)))
        self.assertEqual((), both_ways("waits_for", CELLS, history))

    def test_finishes(self):
        history = OPEN + (("drop", 2),)
        good = (("drop", 3), ("back", 3, 2), ("back", 2, 1), ("keep", 1))
        for events in (good, good[3:] + good[:3], good[:1] + good[3:] + good[1:3]):
            self.assertIs(True, both_ways("is_finish", CELLS, history, events), events)
        for events in (
            good[:3], good[1:], good[:3] + (("drop", 1), ("back", 1, 0)), good + good[3:], list(good),
            good + (("do", 9, "add"),),
            (("do", 9, "add"), ("keep", 9)) + good, (("do", 9, "add"), ("drop", 9), ("back", 9, 4)) + good, (),
            (good[0], good[2], good[1], good[3]), good[:2] + (list(good[2]),) + good[3:], None, {},
            good[:2] + (None,) + good[2:],
            good[:3] + (("keep", True),), good[:3] + (("keep", 3),), (("keep", 3),) + good[2:], "keep", ((),), (good,),
        ):
            self.assertIs(False, both_ways("is_finish", CELLS, history, events), events)

    def test_finishes_that_keep_others(self):
        """Dropping one that is not doomed is a finish, but not one in which exactly the right ones are kept."""
        history = (("do", 1, "add"), ("do", 2, "add"))
        for events in ((("keep", 1), ("keep", 2)), (("keep", 2), ("keep", 1))):
            self.assertIs(True, both_ways("is_finish", CELLS, history, events))
        for events in (
            (("keep", 1), ("drop", 2), ("back", 2, 1)), (("drop", 1), ("drop", 2), ("back", 2, 1), ("back", 1, 0)),
            (("keep", 1), ("drop", 2)), (("keep", 1),),
        ):
            self.assertIs(False, both_ways("is_finish", CELLS, history, events))

    def test_all_finishes(self):
        """Of all tuples of events, exactly the finishes are accepted."""
        for table, start in (
            (CELLS, (("do", 0, "set"), ("do", 1, "add"))), (CELLS, (("do", 0, "set"), ("do", 1, "add"), ("drop", 0))),
            (SMALL, (("do", 0, "a"), ("do", 1, "a"))), (SMALL, (("do", 0, "a"), ("do", 1, "b"), ("do", 0, "a"))),
        ):
            found = [()]
            for events in found:
                self.assertIs(is_finish_by_words(table, start, events), is_finish(table, start, events), events)
                for event in candidates(3) if len(events) < 6 else ():
                    if is_allowed_by_words(table, start + events, event) and event[0] != "do":
                        found.append(events + (event,))
                    else:
                        self.assertIs(False, is_finish(table, start, events + (event,)))

    def test_largest_histories(self):
        self.assertEqual((40, 8), (len(LARGEST), len({event[1] for event in LARGEST})))
        self.check_history(CELLS, LARGEST)
        self.assertNotEqual((), doomed(CELLS, LARGEST))
        for table in TABLES:
            history = tuple([("do", at % 8, "ab"[at // 8 % 2]) for at in range(32)])
            history += tuple([("drop", t) for t in (7, 6)]) + (("do", 0, "a"), ("do", 1, "b"), ("drop", 0))
            history += tuple([("do", 2, "a")] * 3)
            self.assertEqual(40, len(history))
            self.check_history(table, history)
        chain = tuple([("do", t, "set") for t in range(8)])
        self.check_history(CELLS, chain)
        self.assertEqual(("free", tuple(range(8))), both_ways("judge_transaction", CELLS, chain, 7))
        self.assertEqual(tuple([("keep", t) for t in range(8)]), both_ways("finish", CELLS, chain))


class TestWrongValues(unittest.TestCase):
    def test_variants_of_events(self):
        history = OPEN + (("drop", 3), ("do", 4, "add"), ("do", 4, "add"), ("drop", 4))
        for event in (("do", 2, "get"), ("keep", 1), ("drop", 2), ("back", 4, 5), ("back", 3, 2), ("keep", 2)):
            for thing in variants(event) + [event]:
                expected = is_allowed_by_words(CELLS, history, thing)
                self.assertIs(expected, may_happen(CELLS, history, thing), thing)

    def test_variants_of_certificates(self):
        dropping = OPEN + (("drop", 1),)
        for table, history, u in (
            (CELLS, OPEN, 3), (CELLS, OPEN, 1), (CELLS, dropping, 3), (CELLS, RING, 3), (LOOP, THREE, 4),
            (LOOP, THREE, 1),
        ):
            certificate = judge_transaction(table, history, u)
            for thing in variants(certificate):
                expected = transaction_certifies_by_words(table, history, u, thing)
                self.assertIs(expected, transaction_holds(table, history, u, thing), (history, u, thing))

    def test_variants_of_finishes(self):
        for table, history in ((CELLS, OPEN), (CELLS, OPEN + (("drop", 2),)), (CELLS, RING), (CELLS, ())):
            for thing in variants(finish(table, history)):
                expected = is_finish_by_words(table, history, thing)
                self.assertIs(expected, is_finish(table, history, thing), (history, thing))

    def test_no_certificate(self):
        for thing in ODD + (
            ("free",), ("doomed",), ("free", (1, 2), ()), ["free", (1, 2)], ("Free", (1, 2)), (None, (1, 2)),
            ([], (1, 2)),
            ("free", [1, 2]), ("free", 2), ("free", 1, 2), ((1, 2), "free"), "free", ("right",), (("free", (1, 2)),),
            ("free", {}), ("steps", (1, 2)), CutError(), ("doomed", (1, 2)), ("ring", (1, 2)), ("free", ()),
            ("doomed", ()),
        ):
            self.assertIs(False, both_ways("transaction_holds", CELLS, OPEN, 2, thing), thing)

    def test_no_event(self):
        wrong = (("do", 1), ("keep", 1, 0), ["keep", 1], ("keep", [1]), ("keep", {}), ("back", 1, 0), ((), 1))
        for thing in ODD + wrong:
            self.assertIs(False, both_ways("may_happen", CELLS, OPEN, thing), thing)

    def test_no_transaction(self):
        history = OPEN + (("keep", 1), ("drop", 3), ("do", 4, "get"), ("drop", 4), ("back", 4, 5), ("do", 0, "set"))
        for thing in ODD + (1, 3, 4, 5, 9, "2", (2,), [2], "0"):
            for name, rest in (("judge_transaction", ()), ("transaction_holds", (("free", (2,)),))):
                raises(self, "BadTransaction", thing, name, CELLS, history, thing, *rest)
        self.assertEqual(("free", (2,)), judge_transaction(CELLS, history, 2))
        self.assertEqual("doomed", judge_transaction(CELLS, history, 0)[0])

    def test_not_right(self):
        for history in (WRONG, WRONG + (("do", 3, "add"),), WRONG + (("keep", 1),)):
            for name, many in NAMES:
                raises(self, "NotRight", ("wrong", 3, ("caught", 0, 1)), name, CELLS, history, *[True] * many)
        kind, attributes = error_of(allowed, LOOP, THREE + (("keep", 4),))
        self.assertEqual(("NotRight", ["certificate"]), (kind, list(attributes)))
        history = THREE + (("keep", 4),)
        self.assertIs(True, history_certifies_by_words(LOOP, history, attributes["certificate"]))

    def test_no_table_or_history(self):
        for name, many in NAMES:
            rejects_others(self, name, *[()] * many)

    def test_first_error(self):
        bad, worse, rest = [CELLS], {"no": "history"}, (("neither",), ["nor"])
        for name, many in NAMES:
            raises(self, "BadTable", bad, name, bad, worse, *rest[:many])
            raises(self, "BadTable", bad, name, bad, WRONG, *rest[:many])
            raises(self, "BadHistory", worse, name, CELLS, worse, *rest[:many])
            raises(self, "BadHistory", WRONG + WRONG, name, CELLS, WRONG + WRONG, *rest[:many])
            raises(self, "NotRight", ("wrong", 3, ("caught", 0, 1)), name, CELLS, WRONG, *rest[:many])
        raises(self, "BadTransaction", rest[0], "judge_transaction", CELLS, OPEN, rest[0])
        raises(self, "BadTransaction", rest[0], "transaction_holds", CELLS, OPEN, *rest)

    def test_same_call_twice(self):
        for name in ("allowed", "waits_for", "doomed", "finish", "next_steps"):
            self.assertEqual(both_ways(name, CELLS, LARGEST), both_ways(name, CELLS, LARGEST))


if __name__ == "__main__":
    unittest.main()
