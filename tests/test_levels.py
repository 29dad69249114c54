import random
import unittest
from itertools import permutations, product

from eachcut.errors import CutError
from eachcut.judge import judge_history
from eachcut.levels import (
    carriers, high_history, is_run, is_two_level_store, judge_run, low_history, result_after, run_holds,
)
from eachcut.tokens import result
from helper import (
    ODD, both_ways, conflict_by_words, drawn_table, first_wrong_by_words, history_certifies_by_words,
    is_history_by_words, is_possible_by_words, is_same_by_words, is_store_by_words, is_table_by_words, kept_by_words,
    open_by_words, raises, rejects, result_by_words, run_examples, serial_by_words, steps_within, variants,
    word_by_words,
)

PAGES = (("read", "write"), (("read", "write"), ("write", "write")))
CALLS = (("give", "take"), ())
RUN = (
    ("low", ("do", 0, "write")), ("low", ("keep", 0)), ("high", ("do", 5, "give")), ("low", ("do", 1, "write")),
    ("low", ("keep", 1)), ("high", ("do", 6, "take")), ("high", ("keep", 6)),
)
SAME = (2, ((1, 0), (0, 1), (1, 0), (0, 1)))
# The high step is carried out, and taken back by another low transaction.
UNDONE = RUN[:3] + (("high", ("drop", 5)), ("low", ("do", 1, "write")), ("low", ("keep", 1)), ("high", ("back", 5, 0)))
# The same, but nothing is done for the step, and nothing to take it back.
EMPTY = (("high", ("do", 5, "give")), ("high", ("drop", 5)), ("high", ("back", 5, 0)))
# Wrong on the low level at its last cut, and right on the high one.
LOW_WRONG = RUN[:1] + RUN[3:6]
# Wrong on both.
BOTH_WRONG = (
    ("high", ("do", 1, "a")), ("high", ("do", 2, "a")), ("high", ("keep", 2)), ("low", ("do", 1, "write")),
    ("low", ("do", 2, "write")), ("low", ("keep", 2)), ("high", ("do", 3, "a")),
)
LOCKED = (("a",), (("a", "a"),))

EXAMPLES = r"""
>>> from eachcut.levels import carriers, high_history, is_run, judge_run, low_history, result_after
>>> PAGES = (("read", "write"), (("read", "write"), ("write", "write")))
>>> CALLS = (("give", "take"), ())
>>> RUN = (("low", ("do", 0, "write")), ("low", ("keep", 0)), ("high", ("do", 5, "give")), ("low", ("do", 1, "write")), ("low", ("keep", 1)), ("high", ("do", 6, "take")), ("high", ("keep", 6)))
>>> [is_run(PAGES, CALLS, RUN), is_run(PAGES, CALLS, RUN[:2]), high_history(PAGES, CALLS, RUN), carriers(PAGES, CALLS, RUN), judge_run(PAGES, CALLS, RUN)]
[True, False, (('do', 5, 'give'), ('do', 6, 'take'), ('keep', 6)), (0, 1), ('right',)]
>>> SAME = (2, ((1, 0), (0, 1), (1, 0), (0, 1)))
>>> [low_history(PAGES, CALLS, RUN)[2], result_after(PAGES, CALLS, RUN, 7, SAME), result_after(PAGES, CALLS, RUN, 3, SAME)]
[('do', 1, 'write'), (1, 0), (0, 1)]
"""


def part_on(level, run):
    return tuple([item[1] for item in run if item[0] == level])


def is_run_by_words(low, high, thing):
    if type(thing) is not tuple or any(type(item) is not tuple or len(item) != 2 for item in thing):
        return False
    if any(type(level) is not str or level not in ("low", "high") for level, _ in thing):
        return False
    if not is_history_by_words(low[0], part_on("low", thing)):
        return False
    if not is_history_by_words(high[0], part_on("high", thing)):
        return False
    for at, (level, event) in enumerate(thing):
        if level == "low" and event[0] == "keep":
            follower = thing[at + 1:at + 2]
            if not follower or follower[0][0] == "low" or follower[0][1][0] not in ("do", "back"):
                return False
    return True


def carried_by_words(run):
    """For each high "do" and "back" the place of it in the high history and its low transaction, None without one."""
    found = []
    for at, (level, event) in enumerate(run):
        if level == "high" and event[0] in ("do", "back"):
            before = run[at - 1] if at else ("high", ("do", 0))
            keeps = before[0] == "low" and before[1][0] == "keep"
            found.append((len(part_on("high", run[:at])), before[1][1] if keeps else None))
    return found


def cuts_by_words(run):
    return [p for p in range(len(run) + 1) if p == 0 or run[p - 1][0] == "high" or run[p - 1][1][0] != "keep"]


def effect_by_words(run, store, t):
    lows = part_on("low", run)
    return result_by_words(store, serial_by_words(lows, () if t is None else (t,)))


def is_two_level_store_by_words(low, high, run, thing):
    highs = part_on("high", run)
    if not is_store_by_words(low, part_on("low", run), thing):
        return False
    tokens = range(thing[0])
    effects = [(place, effect_by_words(run, thing, t)) for place, t in carried_by_words(run)]
    for (place, one), (other_place, other) in product(effects, repeat=2):
        i, j = [at if highs[at][0] == "do" else highs[at][2] for at in (place, other_place)]
        if i != j and not conflict_by_words(high, highs, i, j):
            if any(one[other[token]] != other[one[token]] for token in tokens):
                return False
        if place < other_place and i == j and any(one[other[token]] != token for token in tokens):
            return False
    return True


def result_after_by_words(run, p, store):
    """First the low part with the low restart, then the open high steps, each by the inverse of its carrier."""
    lows, highs = part_on("low", run[:p]), part_on("high", run[:p])
    word = word_by_words(lows)
    for i in open_by_words(highs):
        t = dict(carried_by_words(run))[i]
        steps = [] if t is None else [at for at in steps_within(lows) if lows[at][1] == t]
        word += tuple([(at, -1) for at in reversed(steps)])
    return result_by_words(store, word)


def run_certifies_by_words(low, high, run, thing):
    lows, highs = part_on("low", run), part_on("high", run)
    if type(thing) is not tuple or thing == () or type(thing[0]) is not str:
        return False
    if thing[0] == "right" and len(thing) == 1:
        return first_wrong_by_words(low, lows) is None and first_wrong_by_words(high, highs) is None
    if len(thing) != 2 or thing[0] not in ("low", "high") or thing[1] == ("right",):
        return False
    table, history = (low, lows) if thing[0] == "low" else (high, highs)
    return history_certifies_by_words(table, history, thing[1])


def drawn_event(chance, table, history, transactions):
    """A possible event, None if the drawn one is not possible; a "keep" must be asked for."""
    t = chance.randrange(transactions)
    steps = [i for i in steps_within(history) if history[i][1] == t] or [0]
    do = ("do", t, chance.choice(table[0]))
    event = chance.choice(
        (do, do, do, ("keep", t), ("drop", t), ("back", t, steps[-1]), ("back", t, chance.choice(steps)))
    )
    return event if is_possible_by_words(table[0], history, event) else None


def is_good(table, history, right):
    return not right or first_wrong_by_words(table, history) is None


def drawn_run(chance, low, high, most, right):
    """A run of drawn items, right on both levels if that is asked for."""
    run = ()
    for _ in range(8 * most):
        level = chance.choice(("low", "low", "high"))
        table = low if level == "low" else high
        event = drawn_event(chance, table, part_on(level, run), 6 if level == "low" else 4)
        if event is None or len(run) >= most or not is_good(table, part_on(level, run) + (event,), right):
            continue
        items = ((level, event),)
        if level == "low" and event[0] == "keep":
            highs = part_on("high", run)
            follower = drawn_event(chance, high, highs, 4)
            if follower is None or follower[0] in ("keep", "drop") or not is_good(high, highs + (follower,), right):
                continue
            items += (("high", follower),)
        if level == "high" and event[0] in ("do", "back") and chance.random() < 0.6:
            continue
        run += items
    return run


TURNS = ((0, 1, 2), (1, 2, 0), (2, 0, 1))
ALL_MOVES = tuple(permutations(range(3)))


def drawn_store(chance, low, high, run):
    """A two-level store in which each low step moves only three tokens of its low kind and of its high kind.

    So steps of other low kinds, and effects of other high kinds, commute; where a kind commutes with itself,
    all moves are turns of three tokens, which commute as well.
    """
    lows, highs = part_on("low", run), part_on("high", run)
    carried = carried_by_words(run)
    dos = {place: t for place, t in carried if highs[place][0] == "do"}
    backs = {highs[place][2]: t for place, t in carried if highs[place][0] == "back"}
    # The kind of the high step that a low transaction is for.
    kinds = {t: highs[step][2] for steps in (dos, backs) for step, t in steps.items()}
    blocks = {pair: 3 * at for at, pair in enumerate(product(low[0], high[0]))}
    found = {}

    def steps_of(t, kind):
        return [i for i in steps_within(lows) if lows[i][1:] == (t, kind)]

    def turned_by(steps):
        places = (0, 1, 2)
        for i in steps:
            places = tuple([found[i][1][place] for place in places])
        return places

    for i in steps_within(lows):
        _, t, kind = lows[i]
        other = kinds.get(t) or chance.choice(high[0])
        free = (kind, kind) in low[1] and (other, other) in high[1]
        found[i] = (blocks[kind, other], chance.choice(ALL_MOVES if free else TURNS))
    # What takes a step back has the inverse effect on each three tokens, or else the step has none there.
    for step, kind in product([step for step in dos if step in backs], low[0]):
        own, back = steps_of(dos[step], kind), steps_of(backs[step], kind)
        if not back:
            found.update({i: (found[i][0], (0, 1, 2)) for i in own})
            continue
        before, forth = turned_by(back[:-1]), turned_by(own)
        # The last step of the "back" leads from where the others came to, to where all began.
        found[back[-1]] = (found[back[-1]][0], tuple([forth.index(before.index(k)) for k in range(3)]))
    moves = [list(range(3 * len(blocks))) for _ in lows]
    for i, (start, turn) in found.items():
        moves[i][start:start + 3] = [start + place for place in turn]
    return 3 * len(blocks), tuple([tuple(move) for move in moves])


class TestRuns(unittest.TestCase):
    def test_examples(self):
        run_examples(self, EXAMPLES)

    def check_run(self, low, high, run):
        """Tests all that is said of a run without a store; returns whether it is right."""
        self.assertIs(True, is_run_by_words(low, high, run))
        self.assertIs(True, both_ways("is_run", low, high, run))
        lows, highs = part_on("low", run), part_on("high", run)
        self.assertEqual(lows, both_ways("low_history", low, high, run))
        self.assertEqual(highs, both_ways("high_history", low, high, run))
        self.assertEqual(tuple([t for _, t in carried_by_words(run)]), both_ways("carriers", low, high, run))
        certificate = both_ways("judge_run", low, high, run)
        self.assertIs(True, run_certifies_by_words(low, high, run, certificate), (low, high, run, certificate))
        self.assertIs(True, both_ways("run_holds", low, high, run, certificate))
        for thing in (
            ("right",), ("low", judge_history(low, lows)), ("high", judge_history(high, highs)),
            ("low", judge_history(high, highs)), ("high", judge_history(low, lows)),
        ):
            expected = run_certifies_by_words(low, high, run, thing)
            self.assertIs(expected, run_holds(low, high, run, thing), (low, high, run, thing))
        for p in range(len(run) + 1):
            self.assertIs(p in cuts_by_words(run), is_run(low, high, run[:p]), (run, p))
        return certificate == ("right",)

    def test_named_runs(self):
        for low, high, run, right in (
            (PAGES, CALLS, RUN, True), (PAGES, CALLS, (), True), (((), ()), ((), ()), (), True),
            (PAGES, CALLS, UNDONE, True), (PAGES, CALLS, EMPTY, True), (PAGES, CALLS, LOW_WRONG, False),
            (PAGES, LOCKED, BOTH_WRONG, False), (PAGES, LOCKED, BOTH_WRONG[:3], False),
        ):
            self.assertIs(right, self.check_run(low, high, run))
        self.assertEqual((0, 1), carriers(PAGES, CALLS, UNDONE))
        self.assertEqual((None, None), carriers(PAGES, CALLS, EMPTY))
        self.assertEqual((None, None, 2), carriers(PAGES, LOCKED, BOTH_WRONG))
        self.assertEqual(("low", ("wrong", 3, ("caught", 0, 1))), judge_run(PAGES, CALLS, LOW_WRONG))
        self.assertEqual(("high", ("wrong", 3, ("caught", 0, 1))), judge_run(PAGES, LOCKED, BOTH_WRONG[:3]))

    def test_wrong_on_both_levels(self):
        wrong = ("wrong", 3, ("caught", 0, 1))
        self.assertIs(True, both_ways("run_holds", PAGES, LOCKED, BOTH_WRONG, ("low", wrong)))
        self.assertIs(True, both_ways("run_holds", PAGES, LOCKED, BOTH_WRONG, ("high", wrong)))
        for thing in (("right",), ("low", ("right",)), ("high", ("right",)), ("low", wrong, ()), wrong, ["low", wrong]):
            self.assertIs(False, both_ways("run_holds", PAGES, LOCKED, BOTH_WRONG, thing), thing)
        self.assertIs(False, both_ways("run_holds", PAGES, CALLS, LOW_WRONG, ("high", ("right",))))
        self.assertIs(False, both_ways("run_holds", PAGES, CALLS, RUN, ("low", ("right",))))

    def test_carried_and_empty(self):
        do, keep = ("low", ("do", 3, "write")), ("low", ("keep", 3))
        high = ("high", ("do", 5, "give"))
        for run, expected in (
            ((do, keep, high), (3,)), ((do, high), (None,)), ((high, do), (None,)), ((do, keep, high, high), (3, None)),
            ((high, high), (None, None)), ((do, high, keep, high), (None, 3)),
            ((high, ("high", ("drop", 5)), do, keep, ("high", ("back", 5, 0))), (None, 3)),
            ((do, keep, high, ("high", ("drop", 5)), ("high", ("back", 5, 0))), (3, None)),
            ((do, ("low", ("drop", 3)), high, ("low", ("back", 3, 0)), high), (None, None)),
        ):
            self.assertEqual(expected, both_ways("carriers", PAGES, CALLS, run), run)
            self.check_run(PAGES, CALLS, run)
        for run in (
            (do, keep), (do, keep, do), (do, keep, ("high", ("keep", 5)), high),
            (high, do, keep, ("high", ("keep", 5))),
            (high, do, keep, ("high", ("drop", 5))), (do, ("low", ("do", 4, "read")), keep, ("low", ("keep", 4)), high),
        ):
            self.assertIs(False, both_ways("is_run", PAGES, CALLS, run), run)
            raises(self, "BadRun", run, "carriers", PAGES, CALLS, run)

    def test_drawn_runs(self):
        found = []
        for seed in range(150):
            chance = random.Random(seed)
            low, high = drawn_table(chance), drawn_table(chance)
            run = drawn_run(chance, low, high, chance.choice((6, 12, 25, 50)), seed % 2 == 0)
            found.append(self.check_run(low, high, run))
        self.assertLess(60, found.count(True))
        self.assertLess(10, found.count(False))

    def test_order_is_preserved(self):
        """[9.5]: the order of the "keep" events is a serial order of what is kept."""
        for seed in range(20):
            chance = random.Random(seed)
            low, high = drawn_table(chance), drawn_table(chance)
            run = drawn_run(chance, low, high, 25, True)
            lows = part_on("low", run)
            for p in range(len(lows) + 1):
                cut = lows[:p]
                serial = serial_by_words(cut, kept_by_words(cut))
                self.assertIs(True, is_same_by_words(low, cut, word_by_words(cut), serial), (low, cut))


class TestStores(unittest.TestCase):
    def check_store(self, low, high, run, store, right):
        """Tests the results at all cuts, and what is said of them in right runs."""
        self.assertIs(True, is_two_level_store_by_words(low, high, run, store), (low, high, run, store))
        self.assertIs(True, both_ways("is_two_level_store", low, high, run, store))
        for p in range(len(run) + 1):
            if p not in cuts_by_words(run):
                raises(self, "BadCut", p, "result_after", low, high, run, p, store)
                continue
            found = result_after(low, high, run, p, store)
            self.assertEqual(result_after_by_words(run, p, store), found, (low, high, run, p, store))
            if right:
                self.check_right_cut(low, run, p, store, found)

    def check_right_cut(self, low, run, p, store, found):
        """[9.4]: both the result after the low restart, and the one after both restarts."""
        lows, highs = part_on("low", run[:p]), part_on("high", run[:p])
        cut = (store[0], store[1][:len(lows)])
        carrying = tuple([t for _, t in carried_by_words(run[:p]) if t is not None])
        self.assertEqual(kept_by_words(lows), carrying)
        serial = result_by_words(cut, serial_by_words(lows, carrying))
        self.assertEqual(serial, result(low, lows, cut, word_by_words(lows)), (run, p, store))
        by_place = dict(carried_by_words(run[:p]))
        steps = [i for t in kept_by_words(highs) for i in steps_within(highs) if highs[i][1] == t]
        order = tuple([by_place[i] for i in steps if by_place[i] is not None])
        self.assertEqual(result_by_words(cut, serial_by_words(lows, order)), found, (run, p, store))

    def test_named_runs(self):
        for run, store in (
            (RUN, SAME), ((), (1, ())), ((), (30, ())), (UNDONE, (2, ((1, 0), (0, 1), (1, 0), (0, 1)))),
            (EMPTY, (4, ())),
            (UNDONE, (3, ((1, 2, 0), (0, 1, 2), (2, 0, 1), (0, 1, 2)))),
        ):
            self.check_store(PAGES, CALLS, run, store, True)
        self.check_store(PAGES, CALLS, LOW_WRONG, (2, ((1, 0), (1, 0), (0, 1))), False)
        still, turn, other = (0, 1, 2), (1, 2, 0), (1, 0, 2)
        self.assertEqual(turn[::1], both_ways("result_after", PAGES, CALLS, RUN, 0, (3, (still,) * 4))[1:] + (0,))
        self.assertEqual((2, 0, 1), both_ways("result_after", PAGES, CALLS, RUN, 7, (3, (turn, still, turn, still))))
        for store in (
            (3, (turn, still, turn, still)), (3, (turn, still, other, still)), (3, (still, still, other, still)),
        ):
            expected = is_two_level_store_by_words(PAGES, CALLS, UNDONE, store)
            self.assertIs(expected, both_ways("is_two_level_store", PAGES, CALLS, UNDONE, store))
            self.assertIs(False, expected)

    def test_what_must_fit(self):
        """Effects of commuting high steps commute, although the low steps conflict."""
        one, other, still = (1, 0, 2), (0, 2, 1), (0, 1, 2)
        store = (3, (one, still, other, still))
        steps = [(level, event[:2] + ("a",) if level == "high" and event[0] == "do" else event) for level, event in RUN]
        for high, run, good in ((CALLS, RUN, False), (LOCKED, tuple(steps), True)):
            self.assertIs(good, both_ways("is_two_level_store", PAGES, high, run, store))
            self.assertIs(good, is_two_level_store_by_words(PAGES, high, run, store))
        itself = (("give", "take"), (("give", "take"),))
        self.assertIs(True, both_ways("is_two_level_store", PAGES, itself, RUN, (3, (one, still, other, still))))
        own = RUN[:5] + (("high", ("do", 5, "take")),)
        self.assertIs(True, both_ways("is_two_level_store", PAGES, CALLS, own, (3, (one, still, other, still))))
        reads = (("low", ("do", 0, "read")), ("low", ("do", 1, "read")))
        self.assertIs(False, both_ways("is_two_level_store", PAGES, CALLS, reads, (3, (one, other))))
        self.assertIs(True, both_ways("is_two_level_store", PAGES, CALLS, reads, (3, (one, one))))

    def test_empty_steps_and_backs(self):
        """An empty step has the identity as its effect, and so has what takes it back."""
        one, still = (1, 0, 2), (0, 1, 2)
        do = ("high", ("do", 5, "give"))
        low = (("low", ("do", 1, "write")), ("low", ("keep", 1)))
        run = (do, ("high", ("drop", 5))) + low + (("high", ("back", 5, 0)),)
        self.assertIs(False, both_ways("is_two_level_store", PAGES, CALLS, run, (3, (one, still))))
        self.assertIs(True, both_ways("is_two_level_store", PAGES, CALLS, run, (3, (still, still))))
        run = low + (do, ("high", ("drop", 5)), ("high", ("back", 5, 0)))
        self.assertIs(False, both_ways("is_two_level_store", PAGES, CALLS, run, (3, (one, still))))
        self.assertIs(True, both_ways("is_two_level_store", PAGES, CALLS, run, (3, (still, still))))
        self.assertIs(True, both_ways("is_two_level_store", PAGES, CALLS, run[:4], (3, (one, still))))
        self.assertEqual(still, both_ways("result_after", PAGES, CALLS, run[:4], 4, (3, (one, still))))
        self.assertEqual(
            one, both_ways("result_after", PAGES, CALLS, run[:3] + (("high", ("keep", 5)),), 4, (3, (one, still))),
        )

    def test_drawn_stores(self):
        """Stores with many different moves, for right runs and for others."""
        backs = 0
        for seed in range(100):
            chance = random.Random(seed)
            low = (
                ("u", "v"),
                chance.choice(((("u", "u"), ("v", "v")), (("u", "u"),), (("u", "u"), ("u", "v"), ("v", "v")))),
            )
            high = (("x", "y"), chance.choice(((("x", "x"), ("y", "y")), (("x", "x"),), (("x", "y"), ("y", "y")), ())))
            right = seed % 4 != 0
            run = drawn_run(chance, low, high, 40, right)
            self.check_store(low, high, run, drawn_store(chance, low, high, run), right)
            backs += len([event for event in part_on("high", run) if event[0] == "back"])
        self.assertLess(40, backs)

    def test_drawn_values(self):
        """Stores that fit the low table, of which only some are two-level stores."""
        found = []
        for seed in range(200):
            chance = random.Random(seed)
            low, high = (("u",), (("u", "u"),)), (("x", "y"), (("x", "y"),))
            run = ()
            for t in range(chance.randint(1, 3)):
                run += (("low", ("do", t, "u")),) * chance.randint(1, 2) + (("low", ("keep", t)),)
                run += (("high", ("do", chance.randrange(3), chance.choice("xy"))),)
            lows = part_on("low", run)
            moves = [chance.choice(ALL_MOVES) if event[0] == "do" else (0, 1, 2) for event in lows]
            store = (3, tuple(moves))
            expected = is_two_level_store_by_words(low, high, run, store)
            found.append(expected)
            self.assertIs(expected, is_two_level_store(low, high, run, store), (run, store))
            if not expected:
                raises(self, "BadStore", store, "result_after", low, high, run, 0, store)
        self.assertLess(20, found.count(True))
        self.assertLess(20, found.count(False))


class TestWrongValues(unittest.TestCase):
    def test_variants_of_runs(self):
        for low, high, run in ((PAGES, CALLS, RUN), (PAGES, CALLS, UNDONE), (PAGES, LOCKED, BOTH_WRONG)):
            for thing in variants(run):
                expected = is_run_by_words(low, high, thing)
                self.assertIs(expected, is_run(low, high, thing), thing)
                if not expected:
                    raises(self, "BadRun", thing, "judge_run", low, high, thing)

    def test_variants_of_certificates(self):
        for high, run in ((CALLS, RUN), (CALLS, LOW_WRONG), (LOCKED, BOTH_WRONG), (LOCKED, BOTH_WRONG[:3])):
            for thing in variants(judge_run(PAGES, high, run)):
                expected = run_certifies_by_words(PAGES, high, run, thing)
                self.assertIs(expected, run_holds(PAGES, high, run, thing), (run, thing))

    def test_variants_of_stores(self):
        for run, store in ((RUN, SAME), (UNDONE, (3, ((1, 2, 0), (0, 1, 2), (2, 0, 1), (0, 1, 2))))):
            for thing in variants(store):
                expected = is_two_level_store_by_words(PAGES, CALLS, run, thing)
                self.assertIs(expected, is_two_level_store(PAGES, CALLS, run, thing), thing)

    def test_no_cut(self):
        for thing in ODD + (2, 5, 8, -7, "0", (0,), [0]):
            if type(thing) is not int or thing not in (0, 1, 3, 4, 6, 7):
                raises(self, "BadCut", thing, "result_after", PAGES, CALLS, RUN, thing, SAME)
        for p in (0, 1, 3, 4, 6, 7):
            self.assertEqual(result_after_by_words(RUN, p, SAME), both_ways("result_after", PAGES, CALLS, RUN, p, SAME))

    def test_each_argument(self):
        table = ("BadTable", is_table_by_words)
        run = ("BadRun", lambda thing: is_run_by_words(PAGES, CALLS, thing))
        cut = ("BadCut", lambda thing: type(thing) is int and thing in (0, 1, 3, 4, 6, 7))
        store = ("BadStore", lambda thing: is_two_level_store_by_words(PAGES, CALLS, RUN, thing))
        for name in ("low_history", "high_history", "carriers", "judge_run"):
            rejects(self, name, (PAGES, CALLS, RUN), (table, table, run))
        rejects(self, "is_run", (PAGES, CALLS, RUN), (table, table, None))
        rejects(self, "run_holds", (PAGES, CALLS, RUN, ("right",)), (table, table, run, None))
        rejects(self, "is_two_level_store", (PAGES, CALLS, RUN, SAME), (table, table, run, None))
        rejects(self, "result_after", (PAGES, CALLS, RUN, 7, SAME), (table, table, run, cut, store))

    def test_nothing_else(self):
        for thing in ODD + (
            CutError(), ("right",), [("right",)], (("low", "high"),), (("low", ()),), ((), ()), ("low",),
        ):
            if thing != ():
                self.assertIs(False, both_ways("is_run", PAGES, CALLS, thing), thing)
            if thing != ("right",):
                self.assertIs(False, both_ways("run_holds", PAGES, CALLS, RUN, thing), thing)
            self.assertIs(False, both_ways("is_two_level_store", PAGES, CALLS, RUN, thing), thing)

    def test_same_call_twice(self):
        self.assertEqual(judge_run(PAGES, LOCKED, BOTH_WRONG), judge_run(PAGES, LOCKED, BOTH_WRONG))
        self.assertEqual(low_history(PAGES, CALLS, RUN), low_history(PAGES, CALLS, RUN))
        self.assertEqual(high_history(PAGES, CALLS, RUN), high_history(PAGES, CALLS, RUN))


if __name__ == "__main__":
    unittest.main()
