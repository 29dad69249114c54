import unittest

from eachcut.histories import is_event, is_history, kept_at, open_at, serial_word, state_of, word_at
from helper import (
    ADDS, CELLS, MANY, ODD, SMALL, all_histories, both_ways, candidates, is_history_by_words, is_possible_by_words,
    is_table_by_words, long_history, open_by_words, raises, run_examples, state_by_words, variants, word_by_words,
)

EMPTY = ((), ())
MIXED = (
    ("do", 0, "set"), ("do", 5, "get"), ("do", 0, "add"), ("keep", 5), ("drop", 0), ("do", 7, "add"), ("back", 0, 0),
    ("do", 7, "add"), ("back", 0, 2), ("keep", 7),
)

EXAMPLES = r"""
>>> from eachcut.histories import is_event, is_history, kept_at, open_at, serial_word, state_of, word_at
>>> CELLS = (("add", "get", "set"), (("add", "get"), ("add", "set"), ("get", "set"), ("set", "set")))
>>> ADDS = (("do", 1, "add"), ("do", 2, "add"), ("drop", 1), ("back", 1, 0), ("keep", 2))
>>> [is_history(CELLS, ADDS), is_history(CELLS, ADDS[1:]), is_event(CELLS, ADDS, ("do", 2, "get")), state_of(CELLS, ADDS, 1), state_of(CELLS, ADDS[:3], 1), state_of(CELLS, ADDS, 7)]
[True, False, False, 'gone', 'dropping', 'new']
>>> [word_at(CELLS, ADDS, 2), word_at(CELLS, ADDS, 4), word_at(CELLS, ADDS, 5), kept_at(CELLS, ADDS, 5), open_at(CELLS, ADDS, 3), serial_word(CELLS, ADDS, (2, 1))]
[((0, 1), (1, 1), (1, -1), (0, -1)), ((0, 1), (1, 1), (0, -1), (1, -1)), ((0, 1), (1, 1), (0, -1)), (2,), (1, 0), ((1, 1), (0, 1))]
"""


class TestHistories(unittest.TestCase):
    def test_examples(self):
        run_examples(self, EXAMPLES)

    def test_empty_history(self):
        for table in (CELLS, EMPTY):
            self.assertIs(True, both_ways("is_history", table, ()))
            self.assertEqual("new", both_ways("state_of", table, (), 0))
            self.assertEqual((), both_ways("kept_at", table, (), 0))
            self.assertEqual((), both_ways("open_at", table, (), 0))
            self.assertEqual((), both_ways("word_at", table, (), 0))
            self.assertEqual((), both_ways("serial_word", table, (), ()))
        self.assertIs(False, both_ways("is_event", EMPTY, (), ("do", 0, "a")))

    def test_mixed_history(self):
        self.assertEqual(
            ["gone", "kept", "kept", "new", "new"],
            [both_ways("state_of", CELLS, MIXED, t) for t in (0, 5, 7, 1, 10 ** 39)],
        )
        self.assertEqual((5, 7), both_ways("kept_at", CELLS, MIXED, 10))
        self.assertEqual((5,), both_ways("kept_at", CELLS, MIXED, 9))
        self.assertEqual((), both_ways("kept_at", CELLS, MIXED, 3))
        self.assertEqual((7, 5), both_ways("open_at", CELLS, MIXED, 9))
        self.assertEqual((7, 5, 2), both_ways("open_at", CELLS, MIXED, 8))
        self.assertEqual((2, 1, 0), both_ways("open_at", CELLS, MIXED, 3))
        self.assertEqual((), both_ways("open_at", CELLS, MIXED, 10))
        self.assertEqual(
            ((0, 1), (1, 1), (2, 1), (5, 1), (0, -1), (7, 1), (7, -1), (5, -1), (2, -1)),
            both_ways("word_at", CELLS, MIXED, 8),
        )
        self.assertEqual((), both_ways("word_at", CELLS, MIXED, 0))
        self.assertEqual(
            ((5, 1), (7, 1), (0, 1), (2, 1), (1, 1)), both_ways("serial_word", CELLS, MIXED, (7, 0, 5)),
        )
        self.assertEqual((), both_ways("serial_word", CELLS, MIXED, ()))

    def test_order_of_keeps(self):
        history = (("do", 1, "a"), ("do", 2, "a"), ("do", 0, "a"), ("keep", 2), ("keep", 0), ("keep", 1))
        self.assertEqual((2, 0, 1), both_ways("kept_at", SMALL, history, 6))

    def test_steps_may_be_taken_back_in_any_order(self):
        history = (("do", 1, "a"), ("do", 1, "a"), ("drop", 1), ("back", 1, 0))
        self.assertIs(True, is_history(SMALL, history))
        self.assertEqual("dropping", state_of(SMALL, history, 1))
        self.assertEqual((1,), open_at(SMALL, history, 4))
        self.assertEqual("gone", state_of(SMALL, history + (("back", 1, 1),), 1))

    def test_a_kind_must_be_one_of_the_table(self):
        history = (("do", 1, "add"),)
        self.assertIs(True, is_history(CELLS, history))
        self.assertIs(False, is_history(SMALL, history))
        self.assertIs(False, is_history(EMPTY, history))

    def test_all_short_histories(self):
        for history in all_histories(4):
            self.assertIs(True, is_history(SMALL, history))
            for t in (0, 1, 2):
                self.assertEqual(state_by_words(history, t), state_of(SMALL, history, t))
            for p in range(len(history) + 1):
                cut = history[:p]
                kept = tuple([event[1] for event in cut if event[0] == "keep"])
                self.assertEqual(kept, kept_at(SMALL, history, p))
                self.assertEqual(open_by_words(cut), open_at(SMALL, history, p))
                self.assertEqual(word_by_words(cut), word_at(SMALL, history, p))
            for event in candidates(len(history) + 1):
                expected = is_possible_by_words(SMALL[0], history, event)
                self.assertIs(expected, is_event(SMALL, history, event))
                self.assertIs(expected, is_history(SMALL, history + (event,)))

    def test_serial_words_of_short_histories(self):
        for history in all_histories(4):
            steps = {t: [(i, 1) for i, event in enumerate(history) if event[:2] == ("do", t)] for t in (0, 1)}
            for order in ((), (0,), (1,), (0, 1), (1, 0)):
                if all(steps[t] for t in order):
                    expected = tuple([letter for t in order for letter in steps[t]])
                    self.assertEqual(expected, serial_word(SMALL, history, order))
                else:
                    raises(self, "BadOrder", order, "serial_word", SMALL, history, order)

    def test_longest_histories(self):
        table = (MANY, tuple([(kind, kind) for kind in MANY]))
        for seed in range(4):
            history = long_history(seed)
            self.assertEqual((200, 80), (len(history), len({event[1] for event in history})))
            self.assertIs(True, both_ways("is_history", table, history))
            for at in range(0, 200, 7):
                wrong = history[:at] + history[at + 1:]
                self.assertIs(is_history_by_words(MANY, wrong), is_history(table, wrong))
            for p in (0, 1, 100, 199, 200):
                self.assertEqual(open_by_words(history[:p]), open_at(table, history, p))
                self.assertEqual(word_by_words(history[:p]), word_at(table, history, p))
            for t in range(80):
                self.assertEqual(state_by_words(history, t), state_of(table, history, t))

    def test_more_events_than_the_limit(self):
        history = tuple([("do", t, "a") for t in range(250)])
        self.assertIs(True, is_history(SMALL, history))
        self.assertEqual(250, len(open_at(SMALL, history, 250)))

    def test_same_call_twice(self):
        for p in range(len(MIXED) + 1):
            self.assertEqual(word_at(CELLS, MIXED, p), word_at(CELLS, MIXED, p))


class TestWrongValues(unittest.TestCase):
    def test_wrong_histories(self):
        start = ("do", 1, "set")
        wrong = (
            [start], (list(start),), ([],), ((),), (("do",),), (("do", 1),), (("do", 1, "set", 1),), (("do", True, "set"),),
            (("do", -1, "set"),), (("do", "1", "set"),), (("do", None, "set"),), (("do", [1], "set"),),
            (("do", 1, "SET"),), (("do", 1, "set\n"),), (("do", 1, ["set"]),), (("do", 1, None),), (("do", 1, {}),),
            (("Do", 1, "set"),), ((None, 1, "set"),), (([], 1, "set"),), (("keep", 1),), (("drop", 1),), (("back", 1, 0),),
            (start, ("keep", 1), ("keep", 1)), (start, ("keep", 1), ("drop", 1)), (start, ("drop", 1), ("keep", 1)),
            (start, ("drop", 1), ("drop", 1)), (start, ("keep", 1), start), (start, ("drop", 1), start),
            (start, ("keep", 2)), (start, ("drop", 2)), (start, ("back", 1, 0)), (start, ("keep", 1), ("back", 1, 0)),
            (start, ("drop", 1), ("back", 2, 0)), (start, ("drop", 1), ("back", 1, 1)), (start, ("drop", 1), ("back", 1, -1)),
            (start, ("drop", 1), ("back", 1, False)), (start, ("drop", 1), ("back", 1, None)),
            (start, ("drop", 1), ("back", 1, [0])), (start, ("drop", 1), ("back", 1)), (start, ("drop", True)),
            (start, ("drop", 1), ("back", True, 0)), (start, ("drop", 1), ("back", 1, 0), ("back", 1, 0)),
            (start, ("drop", 1, 0)), (start, ("keep", 1, 0)), (start, ("keep", 1, "set")), (start, ("keep", {})),
            (start, ("do", 2, "set"), ("drop", 1), ("back", 1, 1)), (("do", 1, "set", "set"),), "do 1 set", None,
        )
        for thing in wrong:
            self.assertIs(False, both_ways("is_history", CELLS, thing), thing)
            raises(self, "BadHistory", thing, "is_event", CELLS, thing, start)
            raises(self, "BadHistory", thing, "state_of", CELLS, thing, 0)
            raises(self, "BadHistory", thing, "serial_word", CELLS, thing, ())
            for name in ("kept_at", "open_at", "word_at"):
                raises(self, "BadHistory", thing, name, CELLS, thing, 0)

    def test_variants_of_histories(self):
        for history in (ADDS, MIXED):
            for thing in variants(history):
                self.assertIs(is_history_by_words(CELLS[0], thing), is_history(CELLS, thing), thing)

    def test_variants_of_events(self):
        for p in range(len(MIXED) + 1):
            events = MIXED[p:p + 1] + (("do", 9, "add"), ("back", 0, 0), ("keep", 0))
            for thing in [other for event in events for other in variants(event)]:
                expected = is_possible_by_words(CELLS[0], MIXED[:p], thing)
                self.assertIs(expected, is_event(CELLS, MIXED[:p], thing), (p, thing))

    def test_events_by_both_ways(self):
        self.assertIs(True, both_ways("is_event", CELLS, ADDS, ("do", 0, "get")))
        for thing in ODD:
            self.assertIs(False, both_ways("is_event", CELLS, ADDS, thing))

    def test_no_table(self):
        for thing in ODD + tuple(variants(EMPTY)) + ((("a", "a"), ()), ["a"]):
            if is_table_by_words(thing):
                continue
            raises(self, "BadTable", thing, "is_history", thing, ())
            raises(self, "BadTable", thing, "is_event", thing, (), ())
            raises(self, "BadTable", thing, "state_of", thing, (), 0)
            raises(self, "BadTable", thing, "serial_word", thing, (), ())
            for name in ("kept_at", "open_at", "word_at"):
                raises(self, "BadTable", thing, name, thing, (), 0)

    def test_no_history(self):
        for thing in ODD:
            if thing == ():
                continue
            raises(self, "BadHistory", thing, "is_event", CELLS, thing, ())
            raises(self, "BadHistory", thing, "state_of", CELLS, thing, 0)
            raises(self, "BadHistory", thing, "serial_word", CELLS, thing, ())
            for name in ("kept_at", "open_at", "word_at"):
                raises(self, "BadHistory", thing, name, CELLS, thing, 0)

    def test_no_transaction(self):
        for thing in ODD:
            if type(thing) is int and thing >= 0:
                self.assertEqual("new", both_ways("state_of", CELLS, ADDS, thing))
            else:
                raises(self, "BadTransaction", thing, "state_of", CELLS, ADDS, thing)

    def test_no_cut(self):
        for name in ("kept_at", "open_at", "word_at"):
            for thing in ODD + (6, -6, "0", (0,)):
                if type(thing) is not int or not 0 <= thing <= 5:
                    raises(self, "BadCut", thing, name, CELLS, ADDS, thing)
            raises(self, "BadCut", 1, name, CELLS, (), 1)

    def test_no_order(self):
        wrong = ((1, 1), (1, 2, 1), (3,), (1, 3), (0,), (-1,), [1, 2], (True,), (1, True), ("1",), ([1],), ({},), ((1,),))
        for thing in ODD + wrong + (1, (None,), (1, None), (BaseException(),)):
            if thing != ():
                raises(self, "BadOrder", thing, "serial_word", CELLS, ADDS, thing)
        for thing in variants((2, 1)):
            if thing not in ((), (1,), (2,), (1, 2), (2, 1)):
                raises(self, "BadOrder", thing, "serial_word", CELLS, ADDS, thing)

    def test_first_error(self):
        bad, worse, worst = [CELLS], {"no": "history"}, ("neither",)
        for name in ("kept_at", "open_at", "word_at", "state_of", "serial_word", "is_event"):
            raises(self, "BadTable", bad, name, bad, worse, worst)
            raises(self, "BadHistory", worse, name, CELLS, worse, worst)
            raises(self, "BadHistory", ADDS, name, SMALL, ADDS, worst)
        raises(self, "BadTable", bad, "is_history", bad, worse)
        for name in ("kept_at", "open_at", "word_at"):
            raises(self, "BadCut", worst, name, CELLS, ADDS, worst)


if __name__ == "__main__":
    unittest.main()
