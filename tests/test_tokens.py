import random
import unittest
from itertools import permutations, product

from eachcut.errors import CutError
from eachcut.judge import is_right_at, judge_cut
from eachcut.tokens import does_show, is_store, result, store_against
from helper import (
    ADDS, CELLS, ODD, TABLES, all_histories, both_ways, drawn_cases, error_of, is_right_at_by_words, is_store_by_words,
    is_word_by_words, kept_by_words, raises, rejects_others, result_by_words, run_examples, shows_by_words,
    steps_within, variants, word_by_words,
)

EMPTY = ((), ())
SETS = (("do", 1, "set"), ("do", 2, "set"), ("keep", 2))
FREE = (("do", 1, "add"), ("do", 2, "add"), ("keep", 2))
ROUND = (("do", 1, "set"), ("do", 2, "set"), ("do", 1, "get"), ("keep", 1), ("keep", 2))
THREE = (3, ((1, 0, 2), (0, 2, 1), (0, 1, 2)))
STILL = (3, ((0, 1, 2), (0, 1, 2), (0, 1, 2)))
LONGEST = tuple(range(1, 30)) + (0,)

EXAMPLES = r"""
>>> from eachcut.tokens import does_show, is_store, result, store_against
>>> CELLS = (("add", "get", "set"), (("add", "get"), ("add", "set"), ("get", "set"), ("set", "set")))
>>> SETS = (("do", 1, "set"), ("do", 2, "set"), ("keep", 2))
>>> THREE = (3, ((1, 0, 2), (0, 2, 1), (0, 1, 2)))
>>> [is_store(CELLS, SETS, THREE), result(CELLS, SETS, THREE, ((0, 1), (1, 1))), result(CELLS, SETS, THREE, ((0, 1), (1, 1), (0, -1))), does_show(CELLS, SETS, 3, THREE), does_show(CELLS, SETS, 3, store_against(CELLS, SETS, 3)), does_show(CELLS, SETS, 3, (1, ((0,), (0,), (0,))))]
[True, (1, 2, 0), (2, 1, 0), True, True, False]
>>> store_against(CELLS, SETS, 2)
raises IsRight(p=2)
"""


def ring_history(many):
    """A table, and a history at whose end many kept transactions are in one ring."""
    kinds = tuple("abcdefgh"[:many])
    steps = [("do", t, kinds[t]) for t in range(many)] + [("do", t, kinds[(t + 1) % many]) for t in range(many)]
    return (kinds, tuple([(kind, kind) for kind in kinds])), tuple(steps + [("keep", t) for t in range(many)])


class TestTokens(unittest.TestCase):
    def test_examples(self):
        run_examples(self, EXAMPLES)

    def test_empty(self):
        for table in (EMPTY, CELLS):
            for many in (1, 2, 30):
                self.assertIs(True, both_ways("is_store", table, (), (many, ())))
                self.assertEqual(tuple(range(many)), both_ways("result", table, (), (many, ()), ()))
                self.assertIs(False, both_ways("does_show", table, (), 0, (many, ())))
            for many in (0, -1, 31, 10 ** 39, True):
                self.assertIs(False, both_ways("is_store", table, (), (many, ())))
            raises(self, "IsRight", 0, "store_against", table, (), 0)

    def test_how_many_tokens(self):
        for many in range(-2, 34):
            moves = (tuple(range(many)),) * 3
            self.assertIs(1 <= many <= 30, both_ways("is_store", CELLS, SETS, (many, moves)), many)
        self.assertEqual((0,), both_ways("result", CELLS, SETS, (1, ((0,), (0,), (0,))), ((0, 1), (1, -1))))
        store = (30, (LONGEST, LONGEST[::-1], tuple(range(30))))
        self.assertIs(True, both_ways("is_store", CELLS, SETS, store))
        self.assertIs(False, both_ways("is_store", CELLS, FREE, store))
        self.assertEqual((29,) + tuple(range(29)), both_ways("result", CELLS, SETS, store, ((0, 1),)))
        self.assertEqual(LONGEST, both_ways("result", CELLS, SETS, store, ((0, -1),)))
        self.assertEqual(tuple(range(30)), both_ways("result", CELLS, SETS, store, ((0, 1),) * 30))
        self.assertIs(True, both_ways("does_show", CELLS, SETS, 3, store))

    def test_stores_of_three_tokens(self):
        """All pairs of moves for two steps that conflict, and for two that do not."""
        moves = list(permutations(range(3)))
        words = [word for many in range(4) for word in product(((0, 1), (0, -1), (1, 1), (1, -1)), repeat=many)]
        for one, other in product(moves, moves):
            store = (3, (one, other, (0, 1, 2)))
            for history in (SETS, FREE):
                fits = is_store_by_words(CELLS, history, store)
                self.assertIs(fits, is_store(CELLS, history, store))
                self.assertIs(shows_by_words(CELLS, history, 3, store), does_show(CELLS, history, 3, store))
                for word in words if fits else ():
                    self.assertEqual(result_by_words(store, word), result(CELLS, history, store, word))
                if not fits:
                    raises(self, "BadStore", store, "result", CELLS, history, store, ())
            self.assertIs(True, is_store(CELLS, SETS, store))

    def test_what_must_fit(self):
        one, other, still = (1, 0, 2), (0, 2, 1), (0, 1, 2)
        own = (("do", 1, "add"), ("do", 1, "add"), ("drop", 1), ("back", 1, 1))
        self.assertIs(True, both_ways("is_store", CELLS, own, (3, (one, other, still, still))))
        self.assertIs(False, both_ways("is_store", CELLS, own, (3, (one, other, one, still))))
        self.assertIs(False, both_ways("is_store", CELLS, own, (3, (one, other, still, other))))
        apart = (("do", 1, "add"), ("do", 2, "get"), ("do", 3, "add"))
        self.assertIs(True, both_ways("is_store", CELLS, apart, (3, (one, other, one))))
        self.assertIs(False, both_ways("is_store", CELLS, apart, (3, (one, other, other))))
        self.assertIs(True, both_ways("is_store", CELLS, apart, (3, (still, one, other))))
        itself = (("a", "b"), (("a", "a"),))
        self.assertIs(True, both_ways("is_store", itself, (("do", 1, "a"), ("do", 2, "a")), (3, (one, other))))
        self.assertIs(False, both_ways("is_store", itself, (("do", 1, "b"), ("do", 2, "b")), (3, (one, other))))
        self.assertIs(False, both_ways("is_store", itself, (("do", 1, "a"), ("do", 2, "b")), (3, (one, other))))

    def test_shown_exactly_where_wrong(self):
        for table in TABLES:
            for history in all_histories(4):
                for p in range(len(history) + 1):
                    self.check_cut(table, history, p)

    def check_cut(self, table, history, p):
        """Tests the store against a history at a cut; returns it, None if the history is right there."""
        if is_right_at_by_words(table, history, p):
            self.assertEqual(("IsRight", {"p": p}), error_of(store_against, table, history, p))
            return None
        store = store_against(table, history, p)
        self.assertIs(True, is_store(table, history, store))
        self.assertIs(True, shows_by_words(table, history, p, store), (history, p, store))
        self.assertIs(True, does_show(table, history, p, store))
        return store

    def test_drawn_histories(self):
        shown = 0
        for table, history in drawn_cases(120, (8, 12, 20)):
            for p in range(len(history) + 1):
                if len(kept_by_words(history[:p])) <= 5:
                    shown += self.check_cut(table, history, p) is not None
        self.assertLess(50, shown)

    def test_no_store_against_a_right_history(self):
        """Drawn stores that fit never show a right history, and sometimes a wrong one."""
        chance = random.Random(5)
        moves = list(permutations(range(3)))
        shown = []
        for table, history in drawn_cases(200, (5, 6, 8)):
            steps = steps_within(history)
            for p in range(len(history) + 1):
                drawn = [chance.choice(moves) if i in steps else (0, 1, 2) for i in range(len(history))]
                store = (3, tuple(drawn))
                self.assertIs(is_store_by_words(table, history, store), is_store(table, history, store))
                if is_store(table, history, store):
                    shows = does_show(table, history, p, store)
                    self.assertIs(shows_by_words(table, history, p, store), shows)
                    self.assertFalse(shows and is_right_at(table, history, p))
                    shown.append(shows)
        self.assertTrue(any(shown))

    def test_rings(self):
        for many in (2, 3, 4, 5):
            table, history = ring_history(many)
            p = len(history)
            self.assertEqual("ring", judge_cut(table, history, p)[0])
            store = both_ways("store_against", table, history, p)
            self.assertIs(True, shows_by_words(table, history, p, store))
            self.assertIs(True, both_ways("does_show", table, history, p, store))
            self.assertLessEqual(store[0], 3 * many)
        table, history = ring_history(8)
        store = store_against(table, history, 24)
        self.assertIs(True, both_ways("is_store", table, history, store))
        self.assertIs(True, is_store_by_words(table, history, store))

    def test_rings_with_others_before_them(self):
        """Conflicts with kept transactions that are not of the ring show nothing."""
        kinds = ("a", "b", "c")
        table = (kinds, (("a", "a"), ("a", "b"), ("a", "c"), ("b", "b"), ("c", "c")))
        for before in (("do", 0, "a"), ("do", 7, "a"), ("do", 7, "b"), ("do", 7, "c")):
            steps = (before, ("do", 3, "b"), ("do", 5, "b"), ("do", 5, "c"), ("do", 3, "c"))
            ends = (("keep", before[1]), ("keep", 3), ("keep", 5))
            for history in (steps + ends, steps + ends[1:] + ends[:1]):
                self.assertEqual("ring", judge_cut(table, history, 8)[0])
                self.assertIsNotNone(self.check_cut(table, history, 8))

    def test_orders_of_kept_transactions(self):
        """A result of any one serial order is not shown to be wrong, whichever order it is."""
        history = tuple([("do", t, "set") for t in range(5)] + [("keep", t) for t in range(5)])
        moves = ((1, 0, 2, 3), (0, 2, 1, 3), (0, 1, 3, 2), (3, 1, 2, 0), (1, 2, 3, 0))
        store = (4, moves + ((0, 1, 2, 3),) * 5)
        self.assertIs(True, is_store(CELLS, history, store))
        self.assertIs(False, both_ways("does_show", CELLS, history, 10, store))
        backwards = history[:5] + history[:4:-1]
        shown = [p for p in range(11) if both_ways("does_show", CELLS, backwards, p, store)]
        self.assertEqual([p for p in range(11) if shows_by_words(CELLS, backwards, p, store)], shown)
        self.assertEqual([6, 7, 8], shown)

    def test_steps_behind_the_cut(self):
        history = SETS + (("do", 3, "set"), ("do", 3, "add"), ("drop", 1))
        store = both_ways("store_against", CELLS, history, 3)
        self.assertEqual(6, len(store[1]))
        self.assertIs(True, both_ways("does_show", CELLS, history, 3, store))
        self.assertIs(False, both_ways("does_show", CELLS, history, 2, store))
        self.assertIs(False, both_ways("does_show", CELLS, history, 3, (store[0], store[1][:3])))
        self.assertIs(True, both_ways("does_show", CELLS, SETS, 3, (store[0], store[1][:3])))
        moved = (3, THREE[1] + ((0, 2, 1), (0, 1, 2), (0, 1, 2)))
        self.assertIs(True, both_ways("does_show", CELLS, history, 3, moved))
        free = SETS[:1] + (("do", 2, "add"), ("keep", 2), ("do", 3, "add"))
        self.assertIs(True, both_ways("does_show", CELLS, free, 3, (3, THREE[1] + ((0, 2, 1),))))
        self.assertIs(False, both_ways("does_show", CELLS, free, 3, (3, THREE[1] + ((1, 0, 2),))))

    def test_largest_stores(self):
        kinds = ("a", "b", "c")
        table = (kinds, tuple([(one, other) for one in kinds for other in kinds if one <= other]))
        history = tuple([("do", at % 5, kinds[at % 3]) for at in range(30)] + [("keep", t) for t in range(5)])
        chance = random.Random(2)
        moves = [tuple(chance.sample(range(30), 30)) for _ in range(30)] + [tuple(range(30))] * 5
        store = (30, tuple(moves))
        self.assertIs(True, both_ways("is_store", table, history, store))
        self.assertIs(shows_by_words(table, history, 35, store), both_ways("does_show", table, history, 35, store))
        word = word_by_words(history[:32])
        self.assertEqual(result_by_words(store, word), both_ways("result", table, history, store, word))


class TestWrongValues(unittest.TestCase):
    def test_variants_of_stores(self):
        stores = (THREE, STILL, (2, ((1, 0), (1, 0), (0, 1))), (1, ((0,), (0,), (0,))))
        for history in (SETS, FREE):
            for thing in [thing for store in stores for thing in variants(store)]:
                expected = is_store_by_words(CELLS, history, thing)
                self.assertIs(expected, is_store(CELLS, history, thing), (history, thing))
                self.assertIs(shows_by_words(CELLS, history, 3, thing), does_show(CELLS, history, 3, thing))
                if not expected:
                    raises(self, "BadStore", thing, "result", CELLS, history, thing, ())

    def test_variants_of_words(self):
        for thing in variants(((0, 1), (1, -1))):
            if is_word_by_words(SETS, thing):
                self.assertEqual(result_by_words(THREE, thing), both_ways("result", CELLS, SETS, THREE, thing))
            else:
                raises(self, "BadWord", thing, "result", CELLS, SETS, THREE, thing)

    def test_no_store(self):
        wrong = ODD + (
            (3,), THREE + ((),), list(THREE), (3, list(THREE[1])), (3, THREE[1][:2]), (3, THREE[1] * 2), THREE[1],
            (3, ([1, 0, 2],) + THREE[1][1:]), (3, ((1, 0),) + THREE[1][1:]), (3, ((1, 1, 2),) + THREE[1][1:]),
            (3, ((1, 0, 3),) + THREE[1][1:]), (3, ((1, 0, -2),) + THREE[1][1:]), (3, ((True, 0, 2),) + THREE[1][1:]),
            (3, ((1, 0, "2"),) + THREE[1][1:]), (3, ((1, False, 2),) + THREE[1][1:]), (4, THREE[1]), (2, THREE[1]),
            ("3", THREE[1]), (None, THREE[1]), ((3,), THREE[1]), (3, THREE[1][:2] + ((1, 0, 2),)), (True, ((0,),) * 3),
            (0, ((), (), ())), (3, None), (3, {}), (3, (None,) * 3), (3, ("102", "021", "012")), CutError(),
            (3, (None, THREE[1][1], THREE[1][2])), (3, ((1, None, 0),) + THREE[1][1:]), (3, 3), (1, (0, 0, 0)),
        )
        for thing in wrong:
            self.assertIs(False, both_ways("is_store", CELLS, SETS, thing), thing)
            self.assertIs(False, both_ways("does_show", CELLS, SETS, 3, thing), thing)
            raises(self, "BadStore", thing, "result", CELLS, SETS, thing, ())

    def test_no_word(self):
        for thing in ODD + ([(0, 1)], ((2, 1),), ((0, True),), ((0, 0),), ((0, 2),), ((3, 1),), ((-1, 1),)):
            if thing != ():
                raises(self, "BadWord", thing, "result", CELLS, SETS, THREE, thing)

    def test_right_at_the_cut(self):
        for p in (0, 1, 2):
            raises(self, "IsRight", p, "store_against", CELLS, SETS, p)
            self.assertIs(False, both_ways("does_show", CELLS, SETS, p, THREE))
        raises(self, "IsRight", 5, "store_against", CELLS, ADDS, 5)

    def test_no_table_or_history(self):
        store = (1, ())
        calls = (("is_store", (store,)), ("result", (store, ())), ("store_against", (0,)), ("does_show", (0, store)))
        for name, rest in calls:
            rejects_others(self, name, *rest)

    def test_no_cut(self):
        for thing in ODD + (4, -4, "0", (0,), [0], 10 ** 39):
            if type(thing) is not int or not 0 <= thing <= 3:
                raises(self, "BadCut", thing, "store_against", CELLS, SETS, thing)
                raises(self, "BadCut", thing, "does_show", CELLS, SETS, thing, THREE)

    def test_first_error(self):
        bad, worse, worst, last = [CELLS], {"no": "history"}, ("neither",), ["nor"]
        for name, rest in (("is_store", ()), ("result", (last,)), ("store_against", ()), ("does_show", (last,))):
            raises(self, "BadTable", bad, name, bad, worse, worst, *rest)
            raises(self, "BadHistory", worse, name, CELLS, worse, worst, *rest)
        raises(self, "BadStore", worst, "result", CELLS, SETS, worst, last)
        raises(self, "BadWord", last, "result", CELLS, SETS, THREE, last)
        raises(self, "BadCut", worst, "store_against", CELLS, SETS, worst)
        raises(self, "BadCut", worst, "does_show", CELLS, SETS, worst, last)

    def test_same_call_twice(self):
        self.assertEqual(store_against(CELLS, SETS, 3), store_against(CELLS, SETS, 3))
        self.assertEqual(store_against(CELLS, ROUND, 5), store_against(CELLS, ROUND, 5))


if __name__ == "__main__":
    unittest.main()
