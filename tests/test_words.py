import random
import unittest
from itertools import product

from eachcut.words import is_rewriting, is_same, is_word, normal, rewritten, steps_to_normal
from helper import (
    ADDS, CELLS, ODD, TABLES, both_ways, drawn_cases, is_same_by_words, is_word_by_words, normal_by_search,
    often_rewritten, once_rewritten, raises, rejects_others, run_examples, steps_within, struck, variants,
    word_by_words,
)

EMPTY = ((), ())
# In SETS all steps conflict, in FREE none; in MIXED the second one with all others; in OWN the two of 1.
SETS = (("do", 1, "set"), ("do", 2, "set"), ("do", 3, "set"))
FREE = (("do", 1, "add"), ("do", 2, "add"), ("do", 3, "add"))
MIXED = (("do", 1, "get"), ("do", 2, "set"), ("do", 3, "get"), ("do", 2, "get"))
OWN = (("do", 1, "add"), ("do", 2, "add"), ("keep", 2), ("do", 1, "add"))
WORD = ((0, 1), (1, 1), (0, -1), (1, -1))

EXAMPLES = r"""
>>> from eachcut.words import is_rewriting, is_same, normal, rewritten
>>> CELLS = (("add", "get", "set"), (("add", "get"), ("add", "set"), ("get", "set"), ("set", "set")))
>>> ADDS, SETS = (("do", 1, "add"), ("do", 2, "add")), (("do", 1, "set"), ("do", 2, "set"))
>>> MIXED = ((0, 1), (1, 1), (0, -1), (1, -1))
>>> [normal(CELLS, ADDS, MIXED), normal(CELLS, SETS, MIXED), normal(CELLS, ADDS, ((1, 1), (0, 1))), is_same(CELLS, SETS, ((1, 1), (0, 1)), ((0, 1), (1, 1)))]
[(), ((0, 1), (1, 1), (0, -1), (1, -1)), ((0, 1), (1, 1)), False]
>>> [rewritten(CELLS, ADDS, MIXED, (("swap", 1), ("strike", 0))), is_rewriting(CELLS, SETS, MIXED, ("swap", 1))]
[((1, 1), (1, -1)), False]
"""


def letters_of(history):
    return [(i, sign) for i in steps_within(history) for sign in (1, -1)]


def words_up_to(history, most):
    return [word for many in range(most + 1) for word in product(letters_of(history), repeat=many)]


def drawn_word(chance, history, most):
    letters = letters_of(history)
    return tuple([chance.choice(letters) for _ in range(most)]) if letters else ()


class TestWords(unittest.TestCase):
    def test_examples(self):
        run_examples(self, EXAMPLES)

    def test_words(self):
        for word in ((), WORD, ((1, -1),), ((0, 1),) * 80, ((1, 1), (0, 1), (1, 1))):
            self.assertIs(True, both_ways("is_word", CELLS, ADDS, word))
        for thing in (((2, 1),), ((3, 1),), ((5, 1),), ((-1, 1),), ((0, 0),), ((0, 2),), ((0, True),), ((False, 1),)):
            self.assertIs(False, both_ways("is_word", CELLS, ADDS, thing))
        self.assertIs(False, both_ways("is_word", CELLS, (), ((0, 1),)))
        self.assertIs(True, both_ways("is_word", CELLS, (), ()))

    def test_empty(self):
        for table, history in ((EMPTY, ()), (CELLS, ()), (CELLS, ADDS)):
            self.assertEqual((), both_ways("normal", table, history, ()))
            self.assertEqual((), both_ways("steps_to_normal", table, history, ()))
            self.assertEqual((), both_ways("rewritten", table, history, (), ()))
            self.assertIs(True, both_ways("is_same", table, history, (), ()))
            self.assertIs(True, both_ways("is_word", table, history, ()))
            for name in ("swap", "strike"):
                for k in (-2, -1, 0, 1):
                    self.assertIs(False, both_ways("is_rewriting", table, history, (), (name, k)))
                    raises(self, "BadSteps", ((name, k),), "rewritten", table, history, (), ((name, k),))

    def test_rewritings_at_the_edges(self):
        word = ((0, 1), (1, 1), (2, 1), (2, -1))
        places = [k for k in range(-4, 6) if both_ways("is_rewriting", CELLS, FREE, word, ("swap", k))]
        self.assertEqual([0, 1], places)
        places = [k for k in range(-4, 6) if both_ways("is_rewriting", CELLS, FREE, word, ("strike", k))]
        self.assertEqual([2], places)
        word = ((0, 1), (0, -1), (1, 1), (2, 1))
        self.assertEqual([2], [k for k in range(-4, 6) if is_rewriting(CELLS, FREE, word, ("swap", k)) and k != 1])
        self.assertEqual(((1, 1), (2, 1)), both_ways("rewritten", CELLS, FREE, word, (("strike", 0),)))
        self.assertEqual(word[:2] + ((2, 1), (1, 1)), both_ways("rewritten", CELLS, FREE, word, (("swap", 2),)))
        self.assertEqual(((1, 1), (2, 1)), rewritten(CELLS, FREE, word[2:] + word[:2], (("strike", 2),)))
        self.assertEqual(((2, 1), (0, 1)), rewritten(CELLS, FREE, ((0, 1), (2, 1)), (("swap", 0),)))

    def test_what_swaps_and_strikes(self):
        self.assertIs(False, both_ways("is_rewriting", CELLS, OWN, ((0, 1), (3, 1)), ("swap", 0)))
        self.assertIs(True, both_ways("is_rewriting", CELLS, OWN, ((1, 1), (3, -1)), ("swap", 0)))
        self.assertIs(False, both_ways("is_rewriting", CELLS, SETS, ((0, 1), (1, -1)), ("swap", 0)))
        self.assertIs(True, both_ways("is_rewriting", CELLS, MIXED, ((0, 1), (2, 1)), ("swap", 0)))
        self.assertIs(False, both_ways("is_rewriting", CELLS, MIXED, ((0, 1), (1, 1)), ("swap", 0)))
        self.assertIs(False, both_ways("is_rewriting", CELLS, MIXED, ((1, 1), (0, 1)), ("swap", 0)))
        self.assertIs(False, both_ways("is_rewriting", CELLS, FREE, ((0, 1), (0, -1)), ("swap", 0)))
        self.assertIs(False, both_ways("is_rewriting", CELLS, FREE, ((0, 1), (0, 1)), ("swap", 0)))
        self.assertIs(True, both_ways("is_rewriting", CELLS, FREE, ((0, -1), (0, 1)), ("strike", 0)))
        self.assertIs(False, both_ways("is_rewriting", CELLS, FREE, ((0, -1), (0, -1)), ("strike", 0)))
        self.assertIs(False, both_ways("is_rewriting", CELLS, FREE, ((0, -1), (1, 1)), ("strike", 0)))

    def test_normal_words(self):
        self.assertEqual(((0, -1), (0, -1), (2, 1)), both_ways("normal", CELLS, FREE, ((2, 1), (0, -1), (0, -1))))
        self.assertEqual(((0, 1), (1, 1), (2, 1)), both_ways("normal", CELLS, FREE, ((2, 1), (1, 1), (0, 1))))
        self.assertEqual(((2, 1), (1, 1), (0, 1)), both_ways("normal", CELLS, SETS, ((2, 1), (1, 1), (0, 1))))
        self.assertEqual(((2, 1), (1, 1), (0, -1)), both_ways("normal", CELLS, MIXED, ((2, 1), (1, 1), (0, -1))))
        self.assertEqual(((0, -1), (2, 1)), both_ways("normal", CELLS, MIXED, ((2, 1), (0, -1))))
        self.assertEqual(((0, 1), (3, 1)), both_ways("normal", CELLS, OWN, ((0, 1), (3, 1))))
        self.assertEqual(((3, 1), (0, 1)), both_ways("normal", CELLS, OWN, ((3, 1), (0, 1))))

    def test_one_position_many_times(self):
        for word, expected in (
            (((0, 1),) * 80, ((0, 1),) * 80),
            (((0, 1), (0, -1)) * 40, ()),
            (((0, 1),) * 40 + ((0, -1),) * 40, ()),
            (((0, 1),) * 30 + ((0, -1),) * 50, ((0, -1),) * 20),
            (((1, 1), (0, -1)) * 40, ((0, -1),) * 40 + ((1, 1),) * 40),
            (((1, 1), (0, -1), (1, -1), (0, 1)) * 20, ()),
        ):
            self.assertEqual(expected, both_ways("normal", CELLS, FREE, word))
            self.assertEqual(expected, rewritten(CELLS, FREE, word, steps_to_normal(CELLS, FREE, word)))
        word = ((1, 1), (0, -1), (1, -1), (0, 1)) * 20
        self.assertEqual(word, both_ways("normal", CELLS, SETS, word))
        self.assertEqual((), both_ways("steps_to_normal", CELLS, SETS, word))

    def check_word(self, table, history, word):
        """Compares all that is said of a word with a search through all words to which rewritings lead."""
        expected = normal_by_search(table, history, word)
        self.assertEqual(expected, normal(table, history, word))
        self.assertEqual(expected, normal(table, history, expected))
        steps = steps_to_normal(table, history, word)
        self.assertLessEqual(len(steps), len(word) ** 2)
        self.assertEqual(expected, often_rewritten(table, history, word, steps))
        self.assertEqual(expected, rewritten(table, history, word, steps))
        for thing in [(name, k) for name in ("swap", "strike") for k in range(-1, len(word) + 1)]:
            after = once_rewritten(table, history, word, thing)
            self.assertIs(after is not None, is_rewriting(table, history, word, thing))
            if after is not None:
                self.assertEqual(after, rewritten(table, history, word, (thing,)))
                self.assertIs(True, is_same(table, history, word, after))

    def test_all_short_words(self):
        for history, most in ((SETS, 3), (FREE, 4), (MIXED[:3], 4), (MIXED, 3), (OWN, 4)):
            for word in words_up_to(history, most):
                self.check_word(CELLS, history, word)
        history = (("do", 0, "a"), ("do", 1, "b"))
        for table in TABLES:
            for word in words_up_to(history, 4):
                self.check_word(table, history, word)

    def test_same_words(self):
        for history in (SETS, FREE, MIXED[:3], OWN):
            words = words_up_to(history, 2) + words_up_to(history, 3)[50:90]
            normals = [normal_by_search(CELLS, history, word) for word in words]
            for word, one in zip(words, normals):
                for other, two in zip(words, normals):
                    self.assertIs(one == two, is_same(CELLS, history, word, other))
        self.assertIs(True, both_ways("is_same", CELLS, FREE, WORD, ()))
        self.assertIs(False, both_ways("is_same", CELLS, SETS, WORD, ()))
        self.assertIs(False, both_ways("is_same", CELLS, FREE, ((0, 1),), ((0, -1),)))

    def test_words_of_histories(self):
        for table, history in drawn_cases(60):
            chance = random.Random(len(history))
            for word in [word_by_words(history), drawn_word(chance, history, 20), drawn_word(chance, history, 80)]:
                found = normal(table, history, word)
                self.assertEqual(found, normal(table, history, found))
                self.assertEqual(found, struck(table, history, found))
                self.assertIs(True, is_same_by_words(table, history, word, found))
                steps = steps_to_normal(table, history, word)
                self.assertLessEqual(len(steps), len(word) ** 2)
                self.assertEqual(found, often_rewritten(table, history, word, steps))
                self.assertEqual(found, rewritten(table, history, word, steps))
                other = drawn_word(chance, history, 3)
                self.assertIs(
                    is_same_by_words(table, history, word, other), both_ways("is_same", table, history, word, other),
                )

    def test_words_with_more_put_in(self):
        """Letters and their inverses that are put in anywhere, and swaps, leave the normal word as it is."""
        for table, history in drawn_cases(30):
            chance = random.Random(len(history))
            word = drawn_word(chance, history, 12)
            found = normal(table, history, word)
            for _ in range(30 if word else 0):
                at, (i, sign) = chance.randint(0, len(word)), chance.choice(letters_of(history))
                word = word[:at] + ((i, sign), (i, -sign)) + word[at:]
                swaps = [("swap", k) for k in range(len(word)) if is_rewriting(table, history, word, ("swap", k))]
                if swaps:
                    word = rewritten(table, history, word, (chance.choice(swaps),))
            self.assertEqual(found, normal(table, history, word))

    def test_longest_words(self):
        history = tuple([("do", at % 8, "ab"[at % 2]) for at in range(40)])
        word = tuple([(i, 1) for i in reversed(range(40))]) + tuple([(i, -1) for i in range(40)])
        for table in TABLES:
            self.assertEqual((), normal(table, history, word))
            self.assertEqual((), rewritten(table, history, word, steps_to_normal(table, history, word)))
            self.assertLessEqual(len(steps_to_normal(table, history, word)), 6400)
        upward = tuple([(i, 1) for i in range(40)])
        downward = tuple([(i, 1) for t in reversed(range(8)) for i in range(t, 40, 8)])
        self.assertEqual(upward, both_ways("normal", TABLES[0], history, downward))
        self.assertEqual(downward, both_ways("normal", TABLES[-1], history, downward))
        steps = steps_to_normal(TABLES[0], history, downward)
        self.assertEqual(upward, both_ways("rewritten", TABLES[0], history, downward, steps))


class TestWrongValues(unittest.TestCase):
    def test_variants_of_words(self):
        for history in (ADDS, MIXED, OWN):
            for word in (WORD, ((0, 1), (3, -1))):
                for thing in variants(word):
                    expected = is_word_by_words(history, thing)
                    self.assertIs(expected, is_word(CELLS, history, thing), (history, thing))
                    if not expected:
                        raises(self, "BadWord", thing, "normal", CELLS, history, thing)

    def test_no_word(self):
        for thing in ODD + ([(0, 1)], ((0, 1), None), ([0, 1],), ((0, 1, 1),), ((0,),), (("0", 1),), ((2, 1),)):
            if thing == ():
                continue
            self.assertIs(False, both_ways("is_word", CELLS, ADDS, thing))
            raises(self, "BadWord", thing, "is_rewriting", CELLS, ADDS, thing, ("swap", 0))
            raises(self, "BadWord", thing, "rewritten", CELLS, ADDS, thing, ())
            raises(self, "BadWord", thing, "normal", CELLS, ADDS, thing)
            raises(self, "BadWord", thing, "steps_to_normal", CELLS, ADDS, thing)
            raises(self, "BadWord", thing, "is_same", CELLS, ADDS, thing, WORD)
            raises(self, "BadWord", thing, "is_same", CELLS, ADDS, WORD, thing)
            raises(self, "BadWord", thing, "is_same", CELLS, ADDS, thing, {"another": thing})

    def test_variants_of_rewritings(self):
        for history, step in ((ADDS, ("swap", 1)), (SETS, ("swap", 1)), (FREE, ("strike", 1)), (FREE, ("strike", 0))):
            word = WORD if step[0] == "swap" else ((0, 1), (0, -1), (0, 1), (1, 1))
            for thing in variants(step) + [step]:
                after = once_rewritten(CELLS, history, word, thing)
                self.assertIs(after is not None, is_rewriting(CELLS, history, word, thing), (history, thing))
                if after is None:
                    raises(self, "BadSteps", (thing,), "rewritten", CELLS, history, word, (thing,))
                else:
                    self.assertEqual(after, rewritten(CELLS, history, word, (thing,)))

    def test_variants_of_steps(self):
        for steps in ((("swap", 1), ("strike", 0), ("strike", 0)), (("swap", 1), ("swap", 1), ("swap", 1))):
            for thing in variants(steps) + [steps]:
                after = often_rewritten(CELLS, ADDS, WORD, thing)
                if after is None:
                    raises(self, "BadSteps", thing, "rewritten", CELLS, ADDS, WORD, thing)
                else:
                    self.assertEqual(after, both_ways("rewritten", CELLS, ADDS, WORD, thing))

    def test_no_rewriting(self):
        for thing in ODD + (("swap",), ("swap", 1, 1), ["swap", 1], ("swap", "1"), ("Swap", 1), (None, 1), ([], 1)):
            self.assertIs(False, both_ways("is_rewriting", CELLS, ADDS, WORD, thing))
        for thing in ODD + ([], [("swap", 1)], ("swap", 1), (("swap", 1), ("strike", 1))):
            if thing != ():
                raises(self, "BadSteps", thing, "rewritten", CELLS, ADDS, WORD, thing)
        for k in (False, True, None, "0", [0], (0,), -1, -3, 3, 4, 10 ** 39):
            self.assertIs(False, both_ways("is_rewriting", CELLS, ADDS, ((0, 1), (1, 1), (0, 1)), ("swap", k)))

    def test_no_table_or_history(self):
        calls = (
            ("is_word", 1), ("is_rewriting", 2), ("rewritten", 2), ("normal", 1), ("is_same", 2),
            ("steps_to_normal", 1),
        )
        for name, many in calls:
            rejects_others(self, name, *[()] * many)

    def test_first_error(self):
        bad, worse, worst, last = [CELLS], {"no": "history"}, ("neither",), ["nor"]
        calls = (("is_rewriting", 2), ("rewritten", 2), ("is_same", 2), ("normal", 1), ("steps_to_normal", 1))
        for name, many in calls:
            rest = (worst, last)[:many]
            raises(self, "BadTable", bad, name, bad, worse, *rest)
            raises(self, "BadHistory", worse, name, CELLS, worse, *rest)
            raises(self, "BadWord", worst, name, CELLS, ADDS, *rest)
        raises(self, "BadTable", bad, "is_word", bad, worse, worst)
        raises(self, "BadHistory", worse, "is_word", CELLS, worse, worst)
        raises(self, "BadSteps", last, "rewritten", CELLS, ADDS, WORD, last)
        raises(self, "BadWord", last, "is_same", CELLS, ADDS, WORD, last)


if __name__ == "__main__":
    unittest.main()
