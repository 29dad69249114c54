import random
import unittest
from itertools import permutations, product

from eachcut.errors import CutError
from eachcut.judge import is_right, is_right_at, judge_cut
from eachcut.sorts import (
    is_sort, is_witness, judge_pair, outcome, pair_holds, serial_outcome, table_of, witness,
)
from eachcut.tables import is_table, without
from helper import (
    ODD, all_histories, both_ways, drawn_history, error_of, first_wrong_by_words, is_history_by_words,
    is_permutation_by_words, is_right_at_by_words, kept_by_words, raises, rejects, run_examples, serial_by_words,
    steps_within, variants, word_by_words,
)

CLOCK = (3, (("get", (0, 1, 2), (0, 1, 2)), ("up", (1, 2, 0), (0, 0, 0))))
EVENTS = (("do", 1, "up"), ("do", 2, "get"), ("keep", 2), ("do", 1, "up"), ("keep", 1))
WITNESS = ((("do", 1, "up"), ("do", 2, "get"), ("keep", 2)), 3, 0)
# A counter that tells what it was: up does not commute with itself, although it does as a move.
TELLER = (3, (("get", (0, 1, 2), (0, 1, 2)), ("up", (1, 2, 0), (0, 1, 2))))
# Moves that do not commute, and tell nothing.
MOVERS = (3, (("left", (1, 0, 2), (0, 0, 0)), ("right", (0, 2, 1), (0, 0, 0)), ("still", (0, 1, 2), (5, 5, 5))))
ONE = (1, (("a", (0,), (7,)),))
LARGEST = (12, tuple([
    (kind, tuple([(state + by) % 12 for state in range(12)]), tuple([state % parts for state in range(12)]))
    for kind, by, parts in zip("abcdefgh", (0, 1, 4, 6, 0, 3, 6, 11), (12, 1, 4, 6, 3, 1, 2, 12))
]))

EXAMPLES = r"""
>>> from eachcut.sorts import is_sort, is_witness, judge_pair, outcome, serial_outcome, table_of
>>> CLOCK = (3, (("get", (0, 1, 2), (0, 1, 2)), ("up", (1, 2, 0), (0, 0, 0))))
>>> [is_sort(CLOCK), table_of(CLOCK), judge_pair(CLOCK, "up", "up"), judge_pair(CLOCK, "get", "up")[0]]
[True, (('get', 'up'), (('get', 'up'),)), ('commute',), 'state']
>>> EVENTS = (("do", 1, "up"), ("do", 2, "get"), ("keep", 2), ("do", 1, "up"), ("keep", 1))
>>> [outcome(CLOCK, EVENTS, 3, 0), serial_outcome(CLOCK, EVENTS, 3, (2,), 0), outcome(CLOCK, EVENTS, 5, 1), serial_outcome(CLOCK, EVENTS, 5, (2, 1), 1)]
[(0, ((1, 1),)), (0, ((1, 0),)), (0, ((0, 0), (1, 2), (3, 0))), (0, ((0, 0), (1, 1), (3, 0)))]
>>> is_witness(CLOCK, "get", "up", ((("do", 1, "up"), ("do", 2, "get"), ("keep", 2)), 3, 0))
True
"""


def is_sort_by_words(thing):
    if type(thing) is not tuple or [type(part) for part in thing] != [int, tuple]:
        return False
    size, operations = thing
    if size not in range(1, 13) or len(operations) not in range(1, 9):
        return False
    if any(type(part) is not tuple or len(part) != 3 or type(part[0]) is not str for part in operations):
        return False
    kinds = tuple([part[0] for part in operations])
    if not is_table((tuple(sorted(set(kinds))), ())) or tuple(sorted(set(kinds))) != kinds:
        return False
    if not all(is_permutation_by_words(moves, size) for _, moves, _ in operations):
        return False
    answers = [told for _, _, told in operations]
    return all(type(told) is tuple and [type(part) for part in told] == [int] * size for told in answers)


def part_of(sort, kind):
    return [(moves, answers) for name, moves, answers in sort[1] if name == kind][0]


def agree_by_words(sort, one, other, state):
    """Whether two calls come to the same in either order: the end, what the one tells, and what the other tells."""
    found = []
    for first in ("one", "other"):
        at, told = state, {}
        for call in (first, "other" if first == "one" else "one"):
            moves, answers = part_of(sort, one if call == "one" else other)
            told[call] = answers[at]
            at = moves[at]
        found.append((at, told))
    return found[0] == found[1]


def states_by_words(sort, one, other):
    return [state for state in range(sort[0]) if not agree_by_words(sort, one, other, state)]


def table_by_words(sort):
    kinds = tuple([part[0] for part in sort[1]])
    pairs = [(one, other) for one in kinds for other in kinds if one <= other]
    return kinds, tuple(sorted([pair for pair in pairs if states_by_words(sort, *pair)]))


def outcome_by_words(sort, history, p, word, start):
    """The state and the kept answers after a word, in which each letter is looked up for itself."""
    state, told = start, []
    for i, sign in word:
        moves, answers = part_of(sort, history[i][2])
        if sign == 1 and history[i][1] in kept_by_words(history[:p]):
            told.append((i, answers[state]))
        state = moves[state] if sign == 1 else [other for other in range(sort[0]) if moves[other] == state][0]
    return state, tuple(sorted(told))


def serial_outcomes_by_words(sort, history, p, start):
    orders = permutations(kept_by_words(history[:p]))
    return [outcome_by_words(sort, history, p, serial_by_words(history[:p], order), start) for order in orders]


def is_witness_by_words(sort, one, other, thing):
    """Whether any value is a witness for two kinds that do not commute."""
    kinds, conflicts = table_by_words(sort)
    table = kinds, tuple([pair for pair in conflicts if pair != tuple(sorted((one, other)))])
    if type(thing) is not tuple or [type(part) for part in thing] != [tuple, int, int]:
        return False
    history, p, start = thing
    if not is_history_by_words(kinds, history) or len({event[1] for event in history}) != 2:
        return False
    if first_wrong_by_words(table, history) is not None or not 0 <= p <= len(history) or not 0 <= start < sort[0]:
        return False
    found = outcome_by_words(sort, history, p, word_by_words(history[:p]), start)
    return found not in serial_outcomes_by_words(sort, history, p, start)


def drawn_sort(chance, size=None):
    size = size or chance.choice((1, 2, 2, 3, 3, 4, 5, 12))
    kinds = sorted(chance.sample(["a", "b", "c", "d", "e", "f", "get", "up"], chance.randint(1, 5)))
    turn = tuple(chance.sample(range(size), size))
    found = []
    for kind in kinds:
        # Powers of one permutation commute; other ones mostly do not.
        moves = tuple(range(size))
        for _ in range(chance.randrange(4)):
            moves = tuple([turn[state] for state in moves])
        if chance.random() < 0.25:
            moves = tuple(chance.sample(range(size), size))
        told = [chance.choice((0, 0, 0, -3, 10 ** 8)) for _ in range(size)]
        answers = tuple(told) if chance.random() < 0.25 else (told[0],) * size
        found.append((kind, moves, answers))
    return size, tuple(found)


class TestSorts(unittest.TestCase):
    def test_examples(self):
        run_examples(self, EXAMPLES)

    def check_sort(self, sort):
        """Tests the table, each pair with its certificates, and the witnesses."""
        self.assertIs(True, both_ways("is_sort", sort))
        table = both_ways("table_of", sort)
        self.assertEqual(table_by_words(sort), table)
        self.assertIs(True, is_table(table))
        for one, other in product(table[0], repeat=2):
            pair = tuple(sorted((one, other)))
            states = states_by_words(sort, one, other)
            certificate = both_ways("judge_pair", sort, one, other)
            self.assertEqual(pair not in table[1], certificate == ("commute",))
            self.assertIn(certificate, [("state", state) for state in states] if states else [("commute",)])
            for thing in [("commute",)] + [("state", state) for state in range(-1, sort[0] + 1)]:
                expected = thing[1] in states if len(thing) == 2 else states == []
                self.assertIs(expected, both_ways("pair_holds", sort, one, other, thing))
            if states:
                self.check_witness(sort, one, other)
            else:
                raises(self, "BadPair", pair, "witness", sort, one, other)
                raises(self, "BadPair", pair, "is_witness", sort, one, other, None)

    def check_witness(self, sort, one, other):
        thing = both_ways("witness", sort, one, other)
        self.assertIs(True, is_witness_by_words(sort, one, other, thing), (sort, one, other, thing))
        self.assertIs(True, both_ways("is_witness", sort, one, other, thing))
        table = table_of(sort)
        history, p, start = thing
        self.assertIs(True, is_right(without(table, one, other), history))
        self.assertIs(False, is_right_at(table, history, p))

    def test_named_sorts(self):
        for sort in (CLOCK, TELLER, MOVERS, ONE, LARGEST):
            self.check_sort(sort)
        self.assertEqual((("get", "up"), (("get", "up"), ("up", "up"))), both_ways("table_of", TELLER))
        self.assertEqual((("left", "right", "still"), (("left", "right"),)), both_ways("table_of", MOVERS))
        self.assertEqual((("a",), ()), both_ways("table_of", ONE))
        self.assertEqual((12, 8), (LARGEST[0], len(LARGEST[1])))
        self.assertEqual(("state", 0), both_ways("judge_pair", TELLER, "up", "up"))

    def test_all_sorts_of_two_states(self):
        moves = list(permutations(range(2)))
        parts = [(move, told) for move in moves for told in product((0, 1), repeat=2)]
        for one, other in product(parts, repeat=2):
            self.check_sort((2, (("a",) + one, ("b",) + other)))

    def test_all_sorts_of_three_states_that_tell_nothing(self):
        for one, other in product(permutations(range(3)), repeat=2):
            self.check_sort((3, (("a", one, (0, 0, 0)), ("b", other, (1, 1, 1)))))

    def test_drawn_sorts(self):
        for seed in range(150):
            self.check_sort(drawn_sort(random.Random(seed)))

    def test_sizes(self):
        for size in range(-1, 15):
            moves = tuple(range(size))
            self.assertIs(1 <= size <= 12, both_ways("is_sort", (size, (("a", moves, moves),))))
        for many in range(11):
            operations = tuple([(kind, (0,), (0,)) for kind in "abcdefghij"[:many]])
            self.assertIs(1 <= many <= 8, both_ways("is_sort", (1, operations)))

    def test_variants_of_sorts(self):
        for sort in (CLOCK, MOVERS, ONE, (2, (("b", (1, 0), (0, -1)),))):
            for thing in variants(sort) + [sort]:
                self.assertIs(is_sort_by_words(thing), is_sort(thing), thing)

    def test_no_sort(self):
        for thing in ODD + (
            (3,), CLOCK + ((),), list(CLOCK), (3, list(CLOCK[1])), (3, CLOCK[1][::-1]), (3, CLOCK[1] + CLOCK[1][1:]),
            (True, (("a", (0,), (0,)),)), (1, (("a", (False,), (0,)),)), (1, (("a", (0,), (False,)),)),
            (1, (("a", [0], (0,)),)), (1, (("a", (0,), [0]),)), (1, (["a", (0,), (0,)],)), (1, ()), (0, ()),
            (2, (("a", (0, 0), (0, 0)),)), (2, (("a", (1, 2), (0, 0)),)), (2, (("a", (0, 1), (0,)),)),
            (2, (("a", (0, 1), (0, 0, 0)),)), (2, (("A", (0, 1), (0, 0)),)), (2, (("a\n", (0, 1), (0, 0)),)),
            (2, (("abcdefghijk", (0, 1), (0, 0)),)), (2, (("", (0, 1), (0, 0)),)), (2, (("a", (0, 1)),)),
            (2, (("a", (0, 1), (0, "0")),)), (2, (("a", (0, 1), (0, None)),)), CutError(), (2, None), (2, {}),
        ):
            self.assertIs(False, is_sort_by_words(thing), thing)
            self.assertIs(False, both_ways("is_sort", thing), thing)
            raises(self, "BadSort", thing, "table_of", thing)
        self.assertIs(True, both_ways("is_sort", (2, (("abcdefghij", (1, 0), (-5, 10 ** 39)),))))


class TestOutcomes(unittest.TestCase):
    def check_cut(self, sort, history, p):
        """Tests the outcomes at a cut from all states; returns whether the history is right there."""
        kept = kept_by_words(history[:p])
        orders = {order: True for order in permutations(kept)}
        for start in range(sort[0]):
            found = outcome(sort, history, p, start)
            word = word_by_words(history[:p])
            self.assertEqual(outcome_by_words(sort, history, p, word, start), found, (sort, history, p, start))
            for order in orders:
                serial = serial_outcome(sort, history, p, order, start)
                word = serial_by_words(history[:p], order)
                self.assertEqual(outcome_by_words(sort, history, p, word, start), serial)
                orders[order] = orders[order] and serial == found
        right = is_right_at_by_words(table_of(sort), history, p)
        if right:
            # One order for all states, and it is that of the certificate.
            self.assertTrue(any(orders.values()), (sort, history, p))
            self.assertTrue(orders[judge_cut(table_of(sort), history, p)[1]], (sort, history, p))
        return right

    def test_short_histories(self):
        for sort in (
            (2, (("a", (1, 0), (0, 0)), ("b", (0, 1), (0, 1)))), (2, (("a", (1, 0), (0, 1)), ("b", (0, 1), (3, 3)))),
            (3, (("a", (1, 0, 2), (0, 0, 0)), ("b", (0, 2, 1), (0, 0, 0)))),
        ):
            for history in all_histories(4):
                for p in range(len(history) + 1):
                    self.check_cut(sort, history, p)

    def test_drawn_histories(self):
        found = []
        for seed in range(120):
            chance = random.Random(seed)
            sort = drawn_sort(chance)
            history = drawn_history(chance, table_by_words(sort), chance.choice((6, 10, 14)), 3, seed % 2 == 0)
            found += [self.check_cut(sort, history, p) for p in range(len(history) + 1)]
        self.assertLess(100, found.count(True))
        self.assertLess(30, found.count(False))

    def test_largest(self):
        for seed in range(6):
            chance = random.Random(seed)
            history = drawn_history(chance, table_by_words(LARGEST), 40, 5, seed % 2 == 0)
            for p in (0, 20, 39, 40)[:len(history)]:
                self.check_cut(LARGEST, history, min(p, len(history)))

    def test_by_both_ways(self):
        self.assertEqual((0, ((1, 1),)), both_ways("outcome", CLOCK, EVENTS, 3, 0))
        self.assertEqual((0, ((1, 0),)), both_ways("serial_outcome", CLOCK, EVENTS, 3, (2,), 0))
        self.assertEqual((0, ((0, 0), (1, 1), (3, 0))), both_ways("serial_outcome", CLOCK, EVENTS, 5, (2, 1), 1))
        self.assertEqual((0, ((0, 0), (1, 0), (3, 0))), both_ways("serial_outcome", CLOCK, EVENTS, 5, (1, 2), 1))

    def test_empty_and_taken_back(self):
        for start in range(3):
            self.assertEqual((start, ()), both_ways("outcome", CLOCK, (), 0, start))
            self.assertEqual((start, ()), both_ways("serial_outcome", CLOCK, (), 0, (), start))
            self.assertEqual((start, ()), both_ways("outcome", CLOCK, EVENTS, 2, start))
            backs = (("do", 1, "up"), ("do", 1, "get"), ("drop", 1), ("back", 1, 1), ("back", 1, 0))
            for p in range(6):
                self.assertEqual((start, ()), both_ways("outcome", CLOCK, backs, p, start))
        self.assertEqual((0, ((0, 7),)), both_ways("outcome", ONE, (("do", 0, "a"), ("keep", 0)), 2, 0))

    def test_conflicts_are_needed(self):
        """Without a conflict some history that is right comes to what no serial order comes to."""
        for sort in (CLOCK, TELLER, MOVERS):
            table = table_of(sort)
            for one, other in table[1]:
                history, p, start = witness(sort, one, other)
                self.assertIs(True, is_right(without(table, one, other), history))
                self.assertNotIn(outcome(sort, history, p, start), serial_outcomes_by_words(sort, history, p, start))


class TestWitnesses(unittest.TestCase):
    def check_thing(self, sort, one, other, thing):
        expected = is_witness_by_words(sort, one, other, thing)
        self.assertIs(expected, is_witness(sort, one, other, thing), (sort, one, other, thing))
        return expected

    def test_variants(self):
        for sort, one, other in (
            (CLOCK, "get", "up"), (CLOCK, "up", "get"), (TELLER, "up", "up"), (MOVERS, "left", "right"),
        ):
            for thing in variants(witness(sort, one, other)):
                self.check_thing(sort, one, other, thing)

    def test_all_short_histories(self):
        sort = (2, (("a", (1, 0), (0, 0)), ("b", (0, 1), (0, 1))))
        found = []
        for history in all_histories(4):
            for p in range(len(history) + 1):
                found += [self.check_thing(sort, "a", "b", (history, p, start)) for start in (0, 1)]
        self.assertLess(4, found.count(True))

    def test_ordinary(self):
        history = WITNESS[0]
        for thing, expected in (
            (WITNESS, True), ((history, 3, 2), True), ((history, 3, 3), False), ((history, 2, 0), False),
            ((history, 4, 0), False), ((history, -1, 0), False), ((history, 3, False), False), (list(WITNESS), False),
            ((list(history), 3, 0), False), ((history, 3), False), (WITNESS + (0,), False), ((history, "3", 0), False),
            ((history + (("do", 3, "up"),), 3, 0), False), ((history + (("do", 1, "up"),), 3, 0), True),
            ((history[:1] + (("keep", 1),), 2, 0), False), (((), 0, 0), False), ((history, 3, None), False),
            # It is wrong at a later cut, also for the table without the conflict.
            ((history + (("do", 1, "up"), ("drop", 1), ("back", 1, 3), ("back", 1, 0)), 3, 0), True),
            ((history + (("do", 1, "up"), ("drop", 1), ("back", 1, 0)), 3, 0), False),
        ):
            self.assertIs(expected, is_witness_by_words(CLOCK, "get", "up", thing), thing)
            self.assertIs(expected, both_ways("is_witness", CLOCK, "get", "up", thing), thing)
            self.assertIs(expected, both_ways("is_witness", CLOCK, "up", "get", thing), thing)

    def test_nothing_else(self):
        for thing in ODD + (CutError(), ("state", 0), ("commute",)):
            self.assertIs(False, both_ways("is_witness", CLOCK, "get", "up", thing), thing)


class TestWrongValues(unittest.TestCase):
    def test_no_certificate(self):
        for thing in ODD + (
            ("commute", 0), ["commute"], ("state",), ("state", 0, 0), ["state", 0], ("state", True), ("state", "0"),
            ("State", 0), (0, "state"), ("state", 3), ("state", -1), ("state", (0,)), ("state", None), CutError(),
        ):
            self.assertIs(False, both_ways("pair_holds", CLOCK, "get", "up", thing), thing)
            self.assertIs(False, both_ways("pair_holds", CLOCK, "up", "up", thing), thing)
        for state in range(3):
            self.assertIs(True, both_ways("pair_holds", CLOCK, "get", "up", ("state", state)))
        self.assertIs(False, both_ways("pair_holds", CLOCK, "get", "up", ("commute",)))
        self.assertIs(True, both_ways("pair_holds", CLOCK, "get", "get", ("commute",)))

    def test_each_argument(self):
        sort = ("BadSort", is_sort_by_words)
        kind = ("BadKind", lambda thing: type(thing) is str and thing in ("get", "up"))
        history = ("BadHistory", lambda thing: is_history_by_words(("get", "up"), thing))
        cut = ("BadCut", lambda thing: type(thing) is int and 0 <= thing <= 5)
        state = ("BadState", lambda thing: type(thing) is int and 0 <= thing <= 2)
        order = ("BadOrder", lambda thing: repr(thing) in ("(1, 2)", "(2, 1)"))
        rejects(self, "table_of", (CLOCK,), (sort,))
        rejects(self, "judge_pair", (CLOCK, "get", "up"), (sort, kind, kind))
        rejects(self, "pair_holds", (CLOCK, "get", "up", None), (sort, kind, kind, None))
        rejects(self, "witness", (CLOCK, "get", "up"), (sort, kind, kind))
        rejects(self, "is_witness", (CLOCK, "get", "up", None), (sort, kind, kind, None))
        rejects(self, "outcome", (CLOCK, EVENTS, 5, 1), (sort, history, cut, state))
        rejects(self, "serial_outcome", (CLOCK, EVENTS, 5, (2, 1), 1), (sort, history, cut, order, state))

    def test_orders(self):
        for p, good in ((0, [()]), (2, [()]), (3, [(2,)]), (4, [(2,)]), (5, [(1, 2), (2, 1)])):
            for order in ((), (1,), (2,), (1, 2), (2, 1), (2, 2), (1, 2, 1), [2], [1, 2], (True,), (2, True), (3,)):
                if repr(order) in [repr(known) for known in good]:
                    self.assertIsInstance(serial_outcome(CLOCK, EVENTS, p, order, 0), tuple)
                else:
                    raises(self, "BadOrder", order, "serial_outcome", CLOCK, EVENTS, p, order, None)

    def test_kinds_that_commute(self):
        for one, other in (("up", "up"), ("get", "get")):
            raises(self, "BadPair", (one, other), "witness", CLOCK, one, other)
            raises(self, "BadPair", (one, other), "is_witness", CLOCK, one, other, WITNESS)
        for one, other in (("left", "still"), ("still", "left")):
            raises(self, "BadPair", ("left", "still"), "witness", MOVERS, one, other)
            raises(self, "BadPair", ("left", "still"), "is_witness", MOVERS, one, other, WITNESS)
        self.assertEqual(("BadKind", {"thing": []}), error_of(witness, CLOCK, [], "up"))

    def test_same_call_twice(self):
        self.assertEqual(judge_pair(TELLER, "up", "get"), judge_pair(TELLER, "up", "get"))
        self.assertEqual(witness(TELLER, "up", "get"), witness(TELLER, "up", "get"))
        self.assertIs(True, pair_holds(TELLER, "up", "get", judge_pair(TELLER, "get", "up")))
        self.assertEqual(2, len(steps_within(witness(TELLER, "up", "up")[0])))


if __name__ == "__main__":
    unittest.main()
