import random
import unittest
from itertools import permutations, product
from math import factorial, prod

from eachcut.errors import CutError
from eachcut.judge import is_right
from eachcut.others import (
    are_programs, counts, is_interleaving, is_plain, is_strict, may_strictly, right_not_strict,
)
from eachcut.scheduler import doomed, waits_for
from helper import (
    ADDS, CELLS, MANY, ODD, SMALL, TABLES, all_histories, both_ways, candidates, conflict_by_words, drawn_history,
    drawn_table, error_of, first_wrong_by_words, is_history_by_words, is_possible_by_words, is_right_at_by_words,
    is_table_by_words, long_history, raises, rejects, rejects_others, run_examples, state_by_words, steps_within,
    variants,
)

EMPTY = ((), ())
SETS = (("do", 1, "set"), ("do", 2, "set"), ("keep", 2), ("keep", 1))

EXAMPLES = r"""
>>> from eachcut.others import counts, is_plain, is_strict, may_strictly, right_not_strict
>>> CELLS = (("add", "get", "set"), (("add", "get"), ("add", "set"), ("get", "set"), ("set", "set")))
>>> [is_strict(CELLS, (("do", 1, "set"), ("do", 2, "set"))), is_strict(CELLS, (("do", 1, "add"), ("do", 2, "add"))), may_strictly(CELLS, (("do", 1, "set"),), ("do", 2, "get")), is_plain(CELLS, (("do", 1, "set"), ("do", 2, "set"), ("keep", 2), ("keep", 1)))]
[False, True, False, True]
>>> [counts(CELLS, (("set",), ("set",))), counts(CELLS, (("add",), ("add",))), right_not_strict(CELLS, (("set",), ("set",)))]
[(6, 6, 4, 2, 2), (6, 6, 6, 6, 2), (('do', 0, 'set'), ('do', 1, 'set'), ('keep', 0), ('keep', 1))]
"""


def is_strict_by_words(table, history):
    """The definition once more, by the positions of the events."""
    place = {event: at for at, event in enumerate(history) if event[0] != "do"}
    never = len(history)
    steps = steps_within(history)
    for i, j in [(i, j) for i in steps for j in steps if i < j and history[i][1] != history[j][1]]:
        t = history[i][1]
        if conflict_by_words(table, history, i, j):
            if place.get(("keep", t), never) > j and place.get(("back", t, i), never) > j:
                return False
    for _, t, i in [event for event in history if event[0] == "back"]:
        later = [j for j in steps if history[j][1] == t and j > i]
        if any(place.get(("back", t, j), never) > place[("back", t, i)] for j in later):
            return False
    return True


def is_plain_by_words(table, history):
    states = {state_by_words(history, event[1]) for event in history}
    return states <= {"kept", "gone"} and is_right_at_by_words(table, history, len(history))


def are_programs_by_words(table, thing):
    if type(thing) is not tuple or len(thing) not in (1, 2, 3, 4):
        return False
    if any(type(program) is not tuple or len(program) not in (1, 2, 3, 4) for program in thing):
        return False
    return all(type(kind) is str and kind in table[0] for program in thing for kind in program)


def events_by_words(programs):
    return [[("do", t, kind) for kind in program] + [("keep", t)] for t, program in enumerate(programs)]


def interleavings_by_words(programs):
    """All of them, by all orders in which the transactions can take turns."""
    turns = [t for t, program in enumerate(programs) for _ in range(len(program) + 1)]
    found = []
    for order in sorted(set(permutations(turns))):
        left = [list(events) for events in events_by_words(programs)]
        found.append(tuple([left[t].pop(0) for t in order]))
    return found


def is_interleaving_by_words(programs, thing):
    if type(thing) is not tuple or any(type(event) is not tuple for event in thing):
        return False
    exact = [tuple([(part, type(part)) for part in event]) for event in thing]
    wanted = [[tuple([(part, type(part)) for part in event]) for event in own] for own in events_by_words(programs)]
    for event in exact:
        own = [events for events in wanted if events and events[0] == event]
        if not own:
            return False
        own[0].pop(0)
    return not any(wanted)


def is_serial_by_words(history):
    """Whether each transaction's events stand side by side."""
    places = {t: [at for at, event in enumerate(history) if event[1] == t] for t in {event[1] for event in history}}
    return all(max(own) - min(own) + 1 == len(own) for own in places.values())


def formula(programs):
    sizes = [len(program) + 1 for program in programs]
    return factorial(sum(sizes)) // prod([factorial(size) for size in sizes])


class TestStrict(unittest.TestCase):
    def test_examples(self):
        run_examples(self, EXAMPLES)

    def check_history(self, table, history):
        """Tests all that is said of a history; returns whether it is strict."""
        strict = is_strict_by_words(table, history)
        self.assertIs(strict, is_strict(table, history), (table, history))
        if strict:
            self.assertIs(True, is_right(table, history), (table, history))
            self.assertIsNone(first_wrong_by_words(table, history))
            active = [t for t in {event[1] for event in history} if state_by_words(history, t) == "active"]
            self.assertEqual([], [pair for pair in waits_for(table, history) if pair[0] in active])
            self.assertEqual((), doomed(table, history))
        return strict

    def test_all_short_histories(self):
        for table in TABLES:
            for history in all_histories(5 if table == SMALL else 4):
                self.check_history(table, history)
                if not any(table[1:]):
                    orderly = all(self.is_last(history, at) for at, event in enumerate(history) if event[0] == "back")
                    self.assertIs(orderly, is_strict(table, history))

    def is_last(self, history, at):
        """Whether a "back" takes back the last step of its transaction that is not taken back."""
        _, t, i = history[at]
        left = [j for j in steps_within(history[:at]) if history[j][1] == t and ("back", t, j) not in history[:at]]
        return i == max(left)

    def test_drawn_histories(self):
        found = []
        for seed in range(400):
            chance = random.Random(seed)
            table = drawn_table(chance)
            history = drawn_history(chance, table, chance.choice((6, 10, 20)), chance.randint(2, 8), seed % 2 == 0)
            found.append(self.check_history(table, history))
        self.assertLess(30, found.count(True))
        self.assertLess(30, found.count(False))

    def strict_history(self, seed, table, most, transactions):
        """A strict history of events drawn from those that keep it strict."""
        chance = random.Random(seed)
        history = ()
        for _ in range(20 * most):
            t = chance.randrange(transactions)
            steps = [i for i in steps_within(history) if history[i][1] == t] or [0]
            do = ("do", t, chance.choice(table[0]))
            event = chance.choice((do, do, do, ("keep", t), ("drop", t), ("back", t, chance.choice(steps))))
            if len(history) < most and is_possible_by_words(table[0], history, event):
                good = is_strict_by_words(table, history + (event,))
                self.assertIs(good, may_strictly(table, history, event))
                history += (event,) if good else ()
        return history

    def test_strict_histories(self):
        for seed in range(40):
            table = drawn_table(random.Random(seed))
            history = self.strict_history(seed, table, 20, 5)
            self.assertIs(True, self.check_history(table, history))

    def test_each_condition(self):
        start = (("do", 1, "set"),)
        for between, expected in (
            ((), False), ((("keep", 1),), True), ((("drop", 1),), False), ((("drop", 1), ("back", 1, 0)), True),
            ((("do", 3, "add"),), False),
        ):
            history = start + between + (("do", 2, "get"),)
            self.assertIs(expected, both_ways("is_strict", CELLS, history), history)
        own = (("do", 1, "add"), ("do", 1, "get"), ("do", 1, "set"), ("drop", 1))
        for backs, expected in (
            ((), True), ((2,), True), ((1,), False), ((0,), False), ((2, 1), True), ((2, 0), False), ((2, 1, 0), True),
            ((2, 0, 1), False), ((1, 2, 0), False),
        ):
            history = own + tuple([("back", 1, i) for i in backs])
            self.assertIs(expected, both_ways("is_strict", CELLS, history), history)
        other = (("do", 1, "add"), ("do", 2, "add"), ("do", 1, "add"), ("drop", 2), ("drop", 1))
        self.assertIs(True, both_ways("is_strict", CELLS, other + (("back", 2, 1), ("back", 1, 2), ("back", 1, 0))))
        self.assertIs(False, both_ways("is_strict", CELLS, other + (("back", 1, 0),)))

    def test_empty_and_longest(self):
        for table in (EMPTY, CELLS):
            self.assertIs(True, both_ways("is_strict", table, ()))
            self.assertIs(True, both_ways("is_plain", table, ()))
            self.assertIs(False, both_ways("may_strictly", table, (), ("keep", 1)))
        table = (MANY, tuple([(kind, kind) for kind in MANY]))
        for seed in range(3):
            history = long_history(seed)
            self.assertEqual(200, len(history))
            for conflicts in ((), table[1]):
                expected = is_strict_by_words((MANY, conflicts), history)
                self.assertIs(expected, both_ways("is_strict", (MANY, conflicts), history))
        chain = tuple([event for t in range(80) for event in (("do", t, MANY[t % 36]), ("keep", t))])
        chain += tuple([("do", 99, MANY[at % 36]) for at in range(40)])
        self.assertEqual(200, len(chain))
        self.assertIs(True, both_ways("is_strict", table, chain))
        self.assertIs(False, both_ways("is_strict", table, chain[:-1] + (("do", 100, MANY[2]),)))

    def test_two_steps(self):
        """[7.5]: with a conflict two steps are enough to be right and not strict."""
        for table in TABLES:
            for one, other in table[1]:
                history = (("do", 0, one), ("do", 1, other))
                self.assertIs(True, is_right(table, history))
                self.assertIs(False, both_ways("is_strict", table, history))

    def test_may_strictly(self):
        for table in TABLES:
            for history in all_histories(3):
                for event in candidates(len(history) + 1):
                    if not is_strict_by_words(table, history):
                        raises(self, "NotStrict", None, "may_strictly", table, history, event)
                        continue
                    expected = is_possible_by_words(table[0], history, event)
                    expected = expected and is_strict_by_words(table, history + (event,))
                    self.assertIs(expected, may_strictly(table, history, event), (history, event))
        self.assertIs(True, both_ways("may_strictly", CELLS, SETS[:1], ("do", 2, "set")) is False)
        self.assertIs(True, both_ways("may_strictly", CELLS, SETS[:1], ("do", 1, "set")))
        raises(self, "NotStrict", None, "may_strictly", CELLS, SETS, None)


class TestPlain(unittest.TestCase):
    def test_all_short_histories(self):
        for table in TABLES:
            for history in all_histories(4):
                self.assertIs(is_plain_by_words(table, history), is_plain(table, history), (table, history))

    def test_drawn_histories(self):
        found = {}
        for seed in range(300):
            chance = random.Random(seed)
            table = drawn_table(chance)
            history = drawn_history(chance, table, chance.choice((4, 8, 12)), chance.randint(1, 3), False)
            # Most drawn histories are plain only after their loose ends are removed.
            loose = [event[1] for event in history if state_by_words(history, event[1]) == "active"]
            history += tuple([("keep", t) for t in sorted(set(loose))])
            plain = is_plain_by_words(table, history)
            self.assertIs(plain, is_plain(table, history), (table, history))
            found[plain, first_wrong_by_words(table, history) is None] = True
        self.assertEqual(4, len(found))

    def test_ordinary(self):
        self.assertIs(True, both_ways("is_plain", CELLS, SETS))
        self.assertIs(False, both_ways("is_plain", CELLS, SETS[:3]))
        self.assertIs(True, both_ways("is_plain", CELLS, ADDS))
        self.assertIs(False, both_ways("is_plain", CELLS, ADDS[:4]))
        self.assertIs(False, both_ways("is_plain", CELLS, (("do", 1, "get"), ("do", 1, "add"), ("drop", 1))))
        ring = (("do", 1, "set"), ("do", 2, "set"), ("do", 1, "get"), ("keep", 1), ("keep", 2))
        self.assertIs(False, both_ways("is_plain", CELLS, ring))


class TestPrograms(unittest.TestCase):
    def drawn_programs(self, seed):
        chance = random.Random(seed)
        table = drawn_table(chance)
        while True:
            sizes = [chance.randint(1, 4) for _ in range(chance.randint(1, 4))]
            programs = tuple([tuple([chance.choice(table[0]) for _ in range(size)]) for size in sizes])
            if sum(sizes) <= 7 and formula(programs) <= 500:
                return table, programs

    def check_programs(self, table, programs):
        histories = interleavings_by_words(programs)
        right = [history for history in histories if first_wrong_by_words(table, history) is None]
        strict = [history for history in histories if is_strict_by_words(table, history)]
        plain = [history for history in histories if is_plain_by_words(table, history)]
        serial = [history for history in histories if is_serial_by_words(history)]
        expected = (len(histories), len(plain), len(right), len(strict), len(serial))
        self.assertEqual(expected, both_ways("counts", table, programs), (table, programs))
        self.assertEqual(formula(programs), expected[0])
        self.assertEqual(sorted(expected, reverse=True), list(expected))
        odd = sorted([history for history in right if history not in strict])
        found = both_ways("right_not_strict", table, programs)
        self.assertEqual(odd[0] if odd else None, found)
        if found is not None:
            self.assertIs(True, is_interleaving(table, programs, found))
            self.assertIs(True, is_right(table, found))
            self.assertIs(False, is_strict(table, found))

    def test_small_programs(self):
        for table in TABLES:
            for one, other in product(((kind,) for kind in "ab"), repeat=2):
                self.check_programs(table, (one, other))
            for kinds in product("ab", repeat=3):
                self.check_programs(table, (kinds[:2], kinds[2:]))

    def test_drawn_programs(self):
        sizes = {}
        for seed in range(25):
            table, programs = self.drawn_programs(seed)
            self.check_programs(table, programs)
            sizes[len(programs)] = True
        self.assertEqual([1, 2, 3], sorted(sizes))

    def test_edges(self):
        for table in (CELLS, SMALL):
            kind = table[0][0]
            self.assertEqual((1, 1, 1, 1, 1), both_ways("counts", table, ((kind,),)))
            self.assertIsNone(both_ways("right_not_strict", table, ((kind,),)))
            self.assertEqual((1, 1, 1, 1, 1), both_ways("counts", table, ((kind,) * 4,)))
        free = (("a",), ())
        self.assertEqual((252, 252, 252, 252, 2), both_ways("counts", free, (("a",) * 4, ("a",) * 4)))
        self.assertEqual((126, 126, 126, 126, 2), both_ways("counts", free, (("a",) * 4, ("a",) * 3)))
        self.assertEqual((420, 420, 420, 420, 6), both_ways("counts", free, (("a",), ("a",), ("a",) * 3)))
        # Somewhat beyond the limit of 500 interleavings.
        self.assertEqual((2520, 2520, 2520, 2520, 24), both_ways("counts", free, (("a",),) * 4))
        self.assertEqual((560, 560, 560, 560, 6), both_ways("counts", free, (("a",), ("a",) * 2, ("a",) * 2)))
        self.assertIsNone(both_ways("right_not_strict", free, (("a",), ("a",) * 2, ("a",) * 2)))
        locked = (("a",), (("a", "a"),))
        self.assertEqual((252, 2), both_ways("counts", locked, (("a",) * 4, ("a",) * 4))[::4])
        self.check_programs(locked, (("a",), ("a",), ("a",) * 3))
        self.assertIs(True, both_ways("are_programs", locked, (("a",) * 4,) * 4))

    def test_interleavings(self):
        for programs in ((("set",), ("set",)), (("add", "get"), ("set",)), (("add",), ("get",), ("add",)), (("get",),)):
            histories = interleavings_by_words(programs)
            for history in histories:
                self.assertIs(True, both_ways("is_interleaving", CELLS, programs, history))
                for thing in variants(history):
                    expected = is_interleaving_by_words(programs, thing)
                    self.assertIs(expected, is_interleaving(CELLS, programs, thing), (programs, thing))
            for history in permutations(histories[0]):
                self.assertIs(history in histories, is_interleaving(CELLS, programs, history))
        # Events of one more transaction, before, between and behind.
        whole = interleavings_by_words((("set",), ("get",)))[3]
        for at in range(len(whole) + 1):
            for more in ((("do", 2, "set"),), (("do", 9, "add"), ("keep", 9))):
                longer = whole[:at] + more + whole[at:]
                self.assertIs(False, both_ways("is_interleaving", CELLS, (("set",), ("get",)), longer))
        # Another transaction that has the same program, and bools as its number.
        self.assertIs(False, both_ways("is_interleaving", CELLS, (("set",),), (("do", False, "set"), ("keep", False))))
        self.assertIs(False, both_ways("is_interleaving", CELLS, (("set",),), (("do", 0, "set"), ("keep", False))))
        self.assertIs(False, both_ways("is_interleaving", CELLS, (("set",),), (("do", 1, "set"), ("keep", 1))))
        self.assertIs(False, both_ways("is_interleaving", CELLS, (("set",),), ()))
        self.assertIs(False, both_ways("is_interleaving", CELLS, (("set",),), (("do", 0, "set"),)))

    def test_programs(self):
        good = ((("set",),), (("set", "get", "add", "set"),) * 4, (("add",), ("get", "get")))
        for programs in good:
            for thing in variants(programs) + [programs]:
                expected = are_programs_by_words(CELLS, thing)
                self.assertIs(expected, are_programs(CELLS, thing), thing)
        for thing in (
            (), ((),), (("set",) * 5,), (("set",),) * 5, ("set",), "set", (["set"],), [("set",)], (("set", "put"),),
            (("set",), ()), ((("set",),),), (("Set",),), (("set\n",),), {("set",): 1}, (("do", 0, "set"),), (None,),
        ):
            self.assertIs(False, both_ways("are_programs", CELLS, thing), thing)
            for name, rest in (("is_interleaving", ((),)), ("counts", ()), ("right_not_strict", ())):
                raises(self, "BadPrograms", thing, name, CELLS, thing, *rest)
        self.assertIs(False, both_ways("are_programs", EMPTY, (("set",),)))


class TestWrongValues(unittest.TestCase):
    def test_no_event(self):
        for thing in ODD + (
            (("do", 2, "get"),), ["do", 2, "get"], ("do", 2), ("keep", 1, 0), ("back", 1, 0), CutError(),
        ):
            self.assertIs(False, both_ways("may_strictly", CELLS, SETS[:1], thing), thing)
        for event in (("do", 2, "add"), ("keep", 1), ("drop", 1)):
            history = (("do", 1, "add"),)
            for thing in variants(event) + [event]:
                expected = is_possible_by_words(CELLS[0], history, thing)
                expected = expected and is_strict_by_words(CELLS, history + (thing,))
                self.assertIs(expected, may_strictly(CELLS, history, thing), thing)

    def test_no_table_or_history(self):
        for name, rest in (("is_strict", ()), ("is_plain", ()), ("may_strictly", ((),))):
            rejects_others(self, name, *rest)

    def test_no_programs(self):
        programs = (("add", "get"), ("set",))
        table = ("BadTable", is_table_by_words)
        good = ("BadPrograms", lambda thing: are_programs_by_words(CELLS, thing))
        rejects(self, "is_interleaving", (CELLS, programs, ()), (table, good, None))
        rejects(self, "counts", (CELLS, programs), (table, good))
        rejects(self, "right_not_strict", (CELLS, programs), (table, good))
        rejects(self, "are_programs", (CELLS, programs), (table, None))

    def test_first_error(self):
        good = ("BadHistory", lambda thing: is_history_by_words(CELLS[0], thing))
        for name in ("is_strict", "is_plain"):
            rejects(self, name, (CELLS, SETS), (("BadTable", is_table_by_words), good))
        rejects(self, "may_strictly", (CELLS, SETS, None), (("BadTable", is_table_by_words), good, None))
        self.assertEqual(("NotStrict", {}), error_of(may_strictly, CELLS, SETS[:2], ("do", 3, "add")))

    def test_same_call_twice(self):
        programs = (("add", "get"), ("set",), ("add",))
        self.assertEqual(counts(CELLS, programs), counts(CELLS, programs))
        self.assertEqual(right_not_strict(CELLS, programs), right_not_strict(CELLS, programs))


if __name__ == "__main__":
    unittest.main()
