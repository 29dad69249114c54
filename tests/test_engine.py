import random
import unittest
from itertools import combinations

from eachcut.disks import is_row, mended, sectors_of
from eachcut.engine import Engine
from eachcut.errors import BadTransaction, CutError
from eachcut.records import are_chained
from helper import (
    CLASSES, NO_WORDS, ODD, EngineByWords, are_integers, drawn_life, drawn_lives, drawn_lost, drawn_operation,
    exclude_by_words, is_natural_by_words, is_request_by_words, kept_worths_by_words, pages_by_words, run_examples,
    seen_of, settle, step_of, undone_by_words, variants,
)

EXAMPLES = r"""
>>> from eachcut.engine import Engine
>>> engine = Engine()
>>> [engine.start(1), engine.start(2), engine.ask(1, ("add", "a", 5)), engine.ask(2, ("add", "a", 2)), engine.write(0), engine.finish(0), engine.ask(2, ("add", "a", 2)), engine.ask(1, ("set", "a", 9))]
[None, None, ('begun', 0), ('latched', (0,)), None, ('done',), ('begun', 1), ('waits', (2,))]
>>> [engine.write(1), engine.finish(1), engine.end(2, "kept"), engine.worths(), engine.drop(1), engine.back(1), engine.write(2), engine.finish(2), engine.worths()]
[None, ('done',), None, (('a', 7),), None, ('begun', 2), None, ('done',), (('a', 2),)]
>>> [engine.fall(()), engine.come_up(), engine.opened(), engine.end(1, "dropped"), engine.opened(), engine.log()[-1]]
[None, None, ((1, 'dropping', ()),), None, (), ('end', 1, 'dropped')]
"""


def engine_after(*steps):
    """An engine after steps, each of which must be possible."""
    engine = Engine()
    for step in steps:
        answer = step_of(engine, step)
        assert answer is None or answer[0] in ("begun", "done", "worth", "waits", "latched"), (step, answer)
    return engine


def whole(t, op, operation, writes=1):
    """The steps of an operation from the asking to the end."""
    return (("ask", t, operation),) + (("write", op),) * writes + (("finish", op),)


ONE = (("start", 1),) + whole(1, 0, ("add", "a", 5)) + (("end", 1, "kept"),)
FILLED = (("start", 1),) + whole(1, 0, ("set", "a", 1)) + whole(1, 1, ("set", "c", 2)) + whole(1, 2, ("set", "e", 3))


class Living(unittest.TestCase):
    def check_state(self, engine, model):
        """Tests that an engine tells the same as its model, and what is always so."""
        self.assertEqual(model.seen(), seen_of(engine))
        for row in engine.log():
            self.assertIs(True, is_row(row))
        if not engine.is_up():
            return
        self.assertIs(True, are_chained(engine.pages()))
        self.assertEqual(pages_by_words(engine.log()), engine.pages())
        locks = [(t, held) for t, _, done in engine.opened() for _, held in done]
        locks += [(told[1], told[2]) for told in engine.active() if told[2] is not None]
        for (t, one), (u, other) in combinations(locks, 2):
            self.assertFalse(t != u and exclude_by_words(one, other))
        written = [n for told in engine.active() for n in set(told[4])]
        self.assertEqual(len(set(written)), len(written))
        for told in engine.active():
            self.assertLessEqual(len(told[4]), 2)
            self.assertEqual(told[4][len(told[4]) - len(told[5]):], tuple([n for n, _ in told[5]]))
        if not engine.opened():
            self.check_worths(engine)

    def check_worths(self, engine):
        """Tests the worths of an engine on which nothing is open."""
        for in_order_of_ends in (False, True):
            self.assertEqual(kept_worths_by_words(engine.log(), in_order_of_ends), engine.worths())

    def check_end(self, engine):
        """Tests that the worths are right when all is taken back, by an engine that has come up."""
        engine = engine.copied()
        kept = [row for row in engine.log() if row[0] == "end" and row[2] == "kept"]
        settle(engine)
        self.assertEqual((), engine.opened())
        self.check_worths(engine)
        self.assertEqual(kept, [row for row in engine.log() if row[0] == "end" and row[2] == "kept"])


class TestLives(Living):
    def test_examples(self):
        run_examples(self, EXAMPLES)

    def test_new(self):
        engine = Engine()
        self.check_state(engine, EngineByWords())
        expected = (((), 0), (), (), True, ((0, ("", (), None)),), (), (), ())
        self.assertEqual(expected, seen_of(engine))
        self.assertEqual(engine, Engine())

    def test_drawn_lives(self):
        """Every step of many lives, and after each one some that may be impossible."""
        found = {}
        for seed, run in enumerate(drawn_lives(40)):
            chance = random.Random(seed)
            engine, model = Engine(), EngineByWords()
            for step in run:
                answer = step_of(engine, step)
                self.assertEqual(model.take(step), answer, (run, step))
                self.check_state(engine, model)
                before = engine.copied()
                for other in self.drawn_tries(chance, [t for t, _, _ in model.opened()]):
                    told = step_of(engine, other)
                    if told is not None and told[0] not in ("begun", "done", "worth"):
                        # An error, or an answer that says what is in the way: nothing changes.
                        self.assertEqual(model.take(other), told, (run, other))
                        self.assertEqual(before, engine)
                        found[told[0]] = found.get(told[0], 0) + 1
                    engine = before.copied()
        names = ("BadTransaction", "BadEnd", "BadOp", "BadNumber", "BadLost", "Down", "Up", "waits", "latched")
        for name in names:
            self.assertLess(20, found.get(name, 0), (name, found))

    def drawn_tries(self, chance, opened):
        t, op, n = chance.choice(opened + [chance.randrange(6)]), chance.randrange(4), chance.randrange(6)
        steps = (
            ("start", t), ("drop", t), ("back", t), ("end", t, "kept"), ("end", t, "dropped"), ("write", op),
            ("finish", op),
            ("ask", t, drawn_operation(chance, "abcdef")), ("ask", t, drawn_operation(chance, "abcdef")), ("force",),
            ("flush", n), ("fall", (n,)), ("up",), ("amid", n, ()), ("amid", 0, (n,)),
        )
        return chance.sample(steps, 4) + [steps[7]]

    def test_growth(self):
        """[12.7]."""
        splits = 0
        for run in drawn_lives(40):
            engine = Engine()
            most, asked, pages = 0, 0, 1
            for step in run:
                if step[0] == "fall":
                    most += 4 * len(engine.opened())
                if step[0] == "amid":
                    # Its rows may be written once more.
                    most += 2 * len(undone_by_words(engine.log()))
                answer = step_of(engine, step)
                begun = step[0] == "ask" and answer[0] == "begun"
                most += 2 * (step[0] == "start") + 6 * begun
                pages += begun and step[2][0] != "read"
                self.assertLessEqual(len(engine.log()), most)
                if engine.is_up():
                    self.assertLessEqual(len(engine.pages()), pages)
            splits += len(pages_by_words(engine.log())) > 1
        self.assertLess(10, splits)

    def test_kept_transactions_are_never_lost(self):
        for run in drawn_lives(40):
            engine, kept = Engine(), []
            for step in run:
                step_of(engine, step)
                if step[0] == "end" and step[2] == "kept":
                    kept.append(step)
                    self.assertEqual(len(engine.device()[0]), engine.device()[1])
                self.assertEqual(kept, [row for row in engine.log() if row[0] == "end" and row[2] == "kept"])

    def test_copies(self):
        for run in drawn_lives(10):
            engine = Engine()
            for at, step in enumerate(run):
                twin = engine.copied()
                self.assertEqual(engine, twin)
                before = seen_of(engine)
                step_of(twin, step)
                self.assertEqual(before, seen_of(engine))
                self.assertEqual(seen_of(twin) == before, engine == twin)
                self.assertEqual(step_of(engine, step), step_of(engine_after(*run[:at]), step))
                self.assertEqual(twin, engine)


class TestFalls(Living):
    def lost_sets(self, chance, device):
        """No lost sectors, all, each one alone, all but one, and some drawn ones."""
        sectors, safe = device
        loose = tuple(range(safe, len(sectors)))
        found = {(), loose} | {(at,) for at in loose} | {drawn_lost(chance, device) for _ in range(2)}
        found |= {tuple([other for other in loose if other != at]) for at in loose}
        return sorted(found)

    def check_fall(self, engine, model, lost, chance):
        """Falls, comes up amid each number of rows, falls again, and comes up."""
        down, model_down = engine.copied(), self.model_copy(model)
        self.assertEqual((None, None), (step_of(down, ("fall", lost)), model_down.take(("fall", lost))))
        self.check_state(down, model_down)
        self.check_coming_up(down, model_down)
        rows = undone_by_words(down.log())
        for k in range(len(rows) + 1):
            sectors, safe = mended(down.device())
            for row in rows[:k]:
                sectors += sectors_of(row)
            again = self.lost_sets(chance, (sectors, safe))
            for lost_again in again[:2] + again[-1:]:
                other, model_other = down.copied(), self.model_copy(model_down)
                step = ("amid", k, lost_again)
                self.assertEqual((None, None), (step_of(other, step), model_other.take(step)))
                self.check_state(other, model_other)
                self.check_coming_up(other, model_other)
        return len(rows)

    def model_copy(self, model):
        twin = EngineByWords()
        twin.device, twin.disk, twin.up = model.device, dict(model.disk), model.up
        twin.dropping, twin.active = set(model.dropping), {op: list(told) for op, told in model.active.items()}
        return twin

    def check_coming_up(self, down, model_down):
        up, model_up = down.copied(), self.model_copy(model_down)
        self.assertEqual((None, None), (step_of(up, ("up",)), model_up.take(("up",))))
        self.check_state(up, model_up)
        self.assertEqual(down.log() + undone_by_words(down.log()), up.log())
        self.assertEqual(len(down.device()[0]) >= down.device()[1], True)
        self.assertEqual((), up.active())
        self.assertEqual(["dropping"] * len(up.opened()), [state for _, state, _ in up.opened()])
        self.check_end(up)

    def check_life(self, run, every=1):
        chance = random.Random(len(run))
        engine, model = Engine(), EngineByWords()
        found = []
        for at, step in enumerate(run):
            self.assertEqual(model.take(step), step_of(engine, step))
            if engine.is_up() and at % every == 0:
                for lost in self.lost_sets(chance, engine.device()):
                    found.append(self.check_fall(engine, model, lost, chance))
        return found

    def test_falls_at_every_place(self):
        """Of named lives with splits, compensations and several active ops."""
        two = (("start", 2),) + (("ask", 2, ("add", "b", 7)), ("write", 3))
        for run in (
            ONE, FILLED + (("ask", 1, ("set", "b", 7)), ("write", 3), ("write", 3), ("finish", 3), ("end", 1, "kept")),
            FILLED + (("force",), ("ask", 1, ("set", "b", 7)), ("write", 3), ("force",), ("write", 3), ("force",)),
            FILLED + (("end", 1, "kept"), ("flush", 0)) + two + (("flush", 1), ("flush", 0), ("write", 3),
            ("flush", 0)),
            FILLED + (("end", 1, "kept"),) + two + (("force",), ("write", 3), ("finish", 3), ("drop", 2), ("back", 2),
            ("force",),
                                                    ("write", 4), ("force",), ("finish", 4), ("end", 2, "dropped")),
        ):
            found = self.check_life(run)
            self.assertEqual(run != ONE, max(found) == 2)

    def test_falls_of_drawn_lives(self):
        found = []
        for seed in range(24):
            found += self.check_life(drawn_life(1000 + seed, 40), 4)
        self.assertLess(20, len([many for many in found if many]))

    def test_falls_right_behind_one_another(self):
        """Coming up that is cut again and again, after each number of rows, still ends in the same worths."""
        for seed in range(60):
            chance = random.Random(seed)
            engine, model = Engine(), EngineByWords()
            for step in drawn_life(2000 + seed, chance.randint(10, 60)):
                step_of(engine, step)
                model.take(step)
            if engine.is_up():
                step = ("fall", drawn_lost(chance, engine.device()))
                self.assertEqual(model.take(step), step_of(engine, step))
            for _ in range(6):
                rows = undone_by_words(engine.log())
                k = chance.randint(0, len(rows))
                sectors, safe = mended(engine.device())
                for row in rows[:k]:
                    sectors += sectors_of(row)
                step = ("amid", k, drawn_lost(chance, (sectors, safe)))
                self.assertEqual(model.take(step), step_of(engine, step))
                self.check_state(engine, model)
                self.check_coming_up(engine, model)

    def test_what_a_fall_leaves(self):
        engine = engine_after(*ONE, ("start", 2), ("start", 3), ("ask", 3, ("add", "b", 1)), ("write", 1))
        sectors = engine.device()[0]
        self.assertEqual((5, 9), (engine.device()[1], len(sectors)))
        for lost, rows in (((), 3), ((8,), 2), ((7,), 2), ((6, 8), 1), ((5,), 0), ((5, 6, 7, 8), 0)):
            other = engine.copied()
            self.assertIsNone(other.fall(lost))
            self.assertEqual(engine.log()[:4 + rows], other.log())
            self.assertIs(False, other.is_up())
            self.assertEqual((), other.disk())
            self.assertEqual(len(sectors), len(other.device()[0]))
        # The row is cut in its middle: its first sector is still there, behind the safe ones.
        other = engine.copied()
        other.fall((len(sectors) - 1,))
        self.assertNotEqual("", other.device()[0][-2])
        self.assertEqual(7, other.device()[1])
        other.come_up()
        self.assertEqual((sectors[:7], 7), other.device())

    def test_coming_up(self):
        """Unfinished ops are taken back, the last write first, and nothing is forced."""
        run = FILLED + (("end", 1, "kept"), ("start", 2), ("ask", 2, ("set", "b", 7)), ("write", 3), ("write", 3))
        engine = engine_after(*run, ("fall", ()))
        safe = engine.device()[1]
        self.assertEqual(len(engine.device()[0]), safe)
        engine.come_up()
        self.assertEqual(
            (("unpage", 3, 0, ("", (("a", 1), ("c", 2), ("e", 3)), None)), ("unpage", 3, 1, None)), engine.log()[-2:],
        )
        self.assertLess(safe, len(engine.device()[0]))
        self.assertEqual(safe, engine.device()[1])
        self.assertEqual(((2, "dropping", ()),), engine.opened())
        self.assertEqual((("a", 1), ("c", 2), ("e", 3)), engine.worths())
        self.assertEqual((len(engine.log()), None), engine.pages()[1])
        # It is cut after the first row, and then only the second write is left to take back.
        engine = engine_after(*run, ("fall", ()), ("amid", 1, ()))
        self.assertEqual(("unpage", 3, 0), engine.log()[-1][:3])
        self.assertEqual("BadNumber", step_of(engine, ("amid", 2, ()))[0])
        engine.come_up()
        self.assertEqual(["page", "page", "unpage", "unpage"], [row[0] for row in engine.log()][-4:])
        # Both are written, and the second one is lost again.
        engine = engine_after(*run, ("fall", ()))
        length = len(mended(engine.device())[0])
        engine.come_up_amid(2, (length + 1,))
        self.assertEqual(0, len([row for row in engine.log() if row[0] == "unpage"]))
        engine.come_up_amid(2, ())
        self.assertEqual(2, len([row for row in engine.log() if row[0] == "unpage"]))
        engine.come_up_amid(0, ())
        engine.come_up()
        self.assertEqual(2, len([row for row in engine.log() if row[0] == "unpage"]))


class TestSteps(Living):
    def test_which_operations_wait(self):
        for one in (("read", "a"), ("set", "a", 1), ("add", "a", 1)):
            for other in (
                ("read", "a"), ("set", "a", 1), ("add", "a", 1), ("read", "b"), ("set", "b", 0), ("add", "b", 1),
            ):
                writes = 0 if one[0] == "read" else 1
                run = (("start", 1), ("start", 2)) + whole(1, 0, one, writes)
                waits = one[1] == other[1] and (one[0], other[0]) not in (("read", "read"), ("add", "add"))
                self.assertEqual(waits, exclude_by_words(one, other))
                self.assertEqual(("waits", (1,)) if waits else ("begun", 1), engine_after(*run).ask(2, other))
                # Its own locks are not in its way, and none is after the end.
                self.assertEqual(("begun", 1), engine_after(*run).ask(1, other))
                self.assertEqual(("begun", 1), engine_after(*run, ("end", 1, "kept")).ask(2, other))
                dropped = engine_after(*run, ("drop", 1))
                self.assertEqual(("waits", (1,)) if waits else ("begun", 1), dropped.copied().ask(2, other))
                for step in (("back", 1),) + (("write", 1),) * writes:
                    step_of(dropped, step)
                if waits:
                    self.assertEqual(("waits", (1,)), dropped.ask(2, other))
                step_of(dropped, ("finish", 1))
                self.assertEqual(("begun", 2), dropped.ask(2, other))

    def test_locks_of_active_ops(self):
        engine = engine_after(("start", 1), ("start", 2), ("start", 3), ("start", 4), ("ask", 3, ("read", "a")))
        self.assertEqual(("waits", (3,)), engine.ask(2, ("set", "a", 1)))
        self.assertEqual(("begun", 1), engine.ask(1, ("read", "a")))
        self.assertEqual(("waits", (1, 3)), engine.ask(2, ("add", "a", 1)))
        self.assertEqual(("worth", 0), engine.finish(0))
        self.assertEqual(("waits", (1, 3)), engine.ask(2, ("add", "a", 1)))
        self.assertEqual(("begun", 2), engine.ask(2, ("add", "b", 1)))
        self.assertEqual(("waits", (2,)), engine.ask(4, ("read", "b")))
        self.assertEqual(("latched", (2,)), engine.ask(4, ("add", "b", 1)))
        self.assertEqual(("latched", (2,)), engine.ask(4, ("set", "d", 1)))
        self.assertEqual(("begun", 3), engine.ask(4, ("set", "d", 0)))

    def test_latches(self):
        """By pages of writes that are left, and of those that are made."""
        split = FILLED + (("end", 1, "kept"), ("start", 2), ("start", 3), ("start", 4), ("start", 5))
        split += (("ask", 2, ("set", "b", 7)),)
        for more in ((), (("write", 3),), (("write", 3), ("write", 3))):
            engine = engine_after(*split, *more)
            self.assertEqual(("latched", (3,)), engine.ask(3, ("set", "e", 7)), more)
            self.assertEqual(("latched", (3,)), engine.ask(3, ("set", "a", 7)))
            self.assertEqual(("begun", 4), engine.ask(3, ("read", "e")))
            self.assertEqual(
                ((3, 2, ("set", "b", 7, 0), None, (1, 0)), (4, 3, ("read", "e"), None, ())),
                tuple([told[:5] for told in engine.active()]),
            )
            self.assertEqual(2 - len(more), len(engine.active()[0][5]))
        engine.finish(3)
        self.assertEqual(("begun", 5), engine.ask(4, ("set", "a", 7)))
        self.assertEqual(("begun", 6), engine.ask(5, ("set", "d", 7)))
        self.assertEqual(("latched", (5,)), engine.ask(2, ("set", "aa", 7)))
        self.assertEqual(("latched", (6,)), engine.ask(2, ("set", "f", 7)))

    def test_latched_by_several_ops(self):
        """A split of page 0 is in the way of two splits, which would take the same free page."""
        run = (("start", 1),)
        op = 0
        for key in "aceghik":
            engine = engine_after(*run)
            engine.ask(1, ("set", key, 1))
            many = len(engine.active()[0][5])
            run += whole(1, op, ("set", key, 1), many)
            op += 1
        run += (("end", 1, "kept"),) + tuple([("start", t) for t in (2, 3, 4, 5)])
        engine = engine_after(*run)
        self.assertLess(2, len(engine.pages()))
        self.assertEqual(("begun", 7), engine.ask(2, ("set", "a", 2)))
        self.assertEqual(("begun", 8), engine.ask(3, ("set", "k", 2)))
        pages = [told[4] for told in engine.active()]
        self.assertNotEqual(pages[0], pages[1])
        self.assertEqual(("latched", (7,)), engine.ask(4, ("add", "aa", 2)))
        self.assertEqual(("latched", (8,)), engine.ask(4, ("add", "l", 2)))

    def test_reserved_pages(self):
        """Two splits at a time take different free pages, as long as the first one's is not yet written."""
        run, engine = (("start", 1),), engine_after(("start", 1))
        for op, key in enumerate(("a", "b", "c", "d", "e", "f", "aa", "cc")):
            run += whole(1, op, ("set", key, 1), 2 if key in ("d", "f") else 1)
        engine = engine_after(*run, ("end", 1, "kept"), ("start", 2), ("start", 3), ("start", 4))
        self.assertEqual([3, 3, 2], [len(content[1]) for _, content in engine.pages()])
        self.assertEqual(
            [("begun", 8), ("begun", 9)], [engine.ask(2, ("set", "ab", 5)), engine.ask(3, ("set", "ca", 5))],
        )
        self.assertEqual([(3, 0), (4, 1)], [told[4] for told in engine.active()])
        # The second one's new page is written first: the page before it does not exist yet, and is not used.
        engine.write(9)
        self.assertEqual((0, None), engine.pages()[3])
        engine.write(9)
        self.assertEqual(("done",), engine.finish(9))
        self.assertEqual(("begun", 10), engine.ask(3, ("set", "g", 5)))
        for step in (("write", 10), ("finish", 10), ("write", 8), ("write", 8), ("finish", 8)):
            self.assertIn(step_of(engine, step), (None, ("done",)))
        self.assertIs(True, are_chained(engine.pages()))
        self.assertEqual(11, len(engine.worths()))

    def test_operations(self):
        engine = engine_after(("start", 0))
        for operation, answer, full, last in (
            (("read", "a"), ("worth", 0), ("read", "a"), 0), (("set", "a", 5), ("done",), ("set", "a", 5, 0), 1),
            (("set", "a", 5), ("done",), ("set", "a", 5, 5), 0), (("add", "a", -2), ("done",), ("add", "a", -2), 1),
            (("read", "a"), ("worth", 3), ("read", "a"), 0), (("add", "a", 0), ("done",), ("add", "a", 0), 0),
            (("set", "a", 0), ("done",), ("set", "a", 0, 3), 1), (("set", "zzzzzzzzz", -10 ** 39), ("done",),
                                                                   ("set", "zzzzzzzzz", -10 ** 39, 0), 1),
        ):
            kind, op = engine.ask(0, operation)
            self.assertEqual("begun", kind)
            told = engine.active()[0]
            self.assertEqual((op, 0, full, None), told[:4])
            self.assertEqual((last, last), (len(told[4]), len(told[5])))
            for _ in range(last):
                self.assertIsNone(engine.write(op))
            self.assertEqual(answer, engine.finish(op))
            self.assertEqual((op, full), engine.opened()[0][2][-1])
            self.assertEqual(("op", 0, op, full), engine.log()[-1])
        self.assertEqual((("zzzzzzzzz", -10 ** 39),), engine.worths())
        engine.drop(0)
        for op, _ in reversed(engine.opened()[0][2]):
            _, new = engine.back(0)
            self.assertEqual((new, 0, None, op), engine.active()[0][:4])
            for _ in engine.active()[0][5]:
                engine.write(new)
            self.assertEqual(("done",), engine.finish(new))
            self.assertEqual(("comp", 0, new, op), engine.log()[-1])
        self.assertEqual((), engine.worths())
        self.assertIsNone(engine.end(0, "dropped"))

    def test_old_worths(self):
        """The old worth of a "set" is that at the moment at which it is asked."""
        engine = engine_after(*ONE, ("start", 2), ("ask", 2, ("set", "a", 8)))
        self.assertEqual(("set", "a", 8, 5), engine.active()[0][2])
        engine.write(1)
        engine.finish(1)
        engine.drop(2)
        engine.back(2)
        self.assertEqual(((0, ("", (("a", 5),), None)),), engine.active()[0][5])

    def test_numbers_of_ops(self):
        engine = engine_after(("start", 1), ("start", 2), ("ask", 1, ("read", "a")), ("ask", 2, ("read", "b")))
        self.assertEqual([0, 1], [told[0] for told in engine.active()])
        engine.finish(1)
        self.assertEqual(("begun", 2), engine.ask(2, ("read", "c")))
        # A fall loses ops that have written nothing; their numbers are used again.
        engine.force()
        engine.fall(())
        engine.come_up()
        self.assertIsNone(engine.start(3))
        self.assertEqual(("begun", 2), engine.ask(3, ("add", "x", 1)))
        engine.write(2)
        engine.force()
        engine.fall(())
        engine.come_up()
        engine.start(4)
        self.assertEqual(("begun", 3), engine.ask(4, ("read", "x")))

    def test_numbers_of_transactions(self):
        engine = engine_after(*ONE)
        self.assertEqual(("BadTransaction", 1), step_of(engine, ("start", 1)))
        self.assertIsNone(engine.start(10 ** 9 - 1))
        self.assertEqual(("BadTransaction", 10 ** 9 - 1), step_of(engine, ("start", 10 ** 9 - 1)))
        # Its row is lost, and the number can be used again.
        engine.fall(tuple(range(engine.device()[1], len(engine.device()[0]))))
        engine.come_up()
        self.assertIsNone(engine.start(10 ** 9 - 1))
        self.assertEqual(("BadTransaction", 1), step_of(engine, ("start", 1)))

    def test_an_active_op(self):
        """A transaction with an active op can do nothing else."""
        for more in ((("ask", 1, ("read", "b")),), (("drop", 1), ("back", 1))):
            engine = engine_after(("start", 1), *whole(1, 0, ("read", "a"), 0), *more)
            self.assertEqual(1, len(engine.active()))
            for step in (
                ("drop", 1), ("back", 1), ("end", 1, "kept"), ("end", 1, "dropped"), ("ask", 1, ("read", "c")),
                ("start", 1),
            ):
                self.assertEqual(("BadTransaction", 1), step_of(engine, step), step)

    def test_ends(self):
        engine = engine_after(("start", 1), ("start", 2), ("start", 3), ("drop", 2))
        for t, end in (
            (1, "dropped"), (2, "kept"), (1, "keep"), (2, None), (1, True), (1, ("kept",)), (1, ["kept"]), (2, ""),
        ):
            self.assertEqual(("BadEnd", end), step_of(engine, ("end", t, end)))
        for step in (("ask", 2, ("read", "a")), ("drop", 2), ("back", 2), ("back", 1), ("drop", 9)):
            self.assertEqual(("BadTransaction", step[1]), step_of(engine, step))
        self.assertEqual(0, engine.device()[1])
        self.assertIsNone(engine.end(2, "dropped"))
        self.assertEqual(0, engine.device()[1])
        self.assertIsNone(engine.end(1, "kept"))
        self.assertEqual(len(engine.device()[0]), engine.device()[1])
        self.assertEqual([3], [told[0] for told in engine.opened()])
        for step in (("end", 1, "kept"), ("end", 1, None), ("drop", 1), ("ask", 1, None), ("start", 2)):
            self.assertEqual(("BadTransaction", step[1]), step_of(engine, step))
        engine = engine_after(("start", 1), *whole(1, 0, ("read", "a"), 0), ("drop", 1))
        self.assertEqual(("BadEnd", "dropped"), step_of(engine, ("end", 1, "dropped")))
        self.assertEqual(("BadEnd", "kept"), step_of(engine, ("end", 1, "kept")))

    def test_force_and_flush(self):
        engine = engine_after(("start", 1), *whole(1, 0, ("add", "a", 5)))
        self.assertEqual(0, engine.device()[1])
        self.assertIsNone(engine.force())
        self.assertEqual(len(engine.device()[0]), engine.device()[1])
        self.assertEqual((), engine.disk())
        engine = engine_after(("start", 1), *whole(1, 0, ("add", "a", 5)))
        self.assertIsNone(engine.flush(0))
        self.assertEqual(((0, engine.pages()[0]),), engine.disk())
        self.assertEqual(len(engine.device()[0]), engine.device()[1])
        for n in (1, -1, True, False, "0", None, (0,), 10 ** 39):
            self.assertEqual(("BadNumber", n), step_of(engine, ("flush", n)))
        engine = engine_after(
            *FILLED, ("ask", 1, ("set", "b", 1)), ("write", 3), ("flush", 1), ("write", 3), ("flush", 0),
        )
        self.assertEqual((0, 1), tuple([n for n, _ in engine.disk()]))
        self.assertEqual(engine.pages(), tuple([page for _, page in engine.disk()]))
        old = engine.disk()
        engine.finish(3)
        engine.ask(1, ("set", "a", 9))
        engine.write(4)
        self.assertEqual(old, engine.disk())
        engine.flush(0)
        self.assertNotEqual(old, engine.disk())
        engine.fall(())
        self.assertEqual(2, len(engine.disk()))


class TestEquality(unittest.TestCase):
    def test_equal(self):
        steps = FILLED + (
            ("ask", 1, ("set", "b", 1)), ("write", 3), ("force",), ("write", 3), ("finish", 3), ("drop", 1),
            ("back", 1),
        )
        engines = [engine_after(*steps[:many]) for many in range(len(steps) + 1)]
        engines += [engine_after(*steps, ("fall", ())), engine_after(*steps, ("fall", ()), ("up",))]
        engines += [engine_after(*steps, last) for last in (("flush", 0), ("flush", 1), ("force",))]
        for at, one in enumerate(engines):
            for other_at, other in enumerate(engines):
                self.assertIs(at == other_at, one == other, (at, other_at))
                self.assertIs(at != other_at, one != other)

    def test_different_parts(self):
        start = engine_after(("start", 1), ("start", 2))
        for one, other in (
            ((("ask", 1, ("read", "a")),), (("ask", 2, ("read", "a")),)), ((("drop", 1),), (("drop", 2),)),
            ((("ask", 1, ("read", "a")),), (("ask", 1, ("read", "b")),)), ((("force",),), ()), ((("fall", ()),), ()),
            ((("ask", 1, ("set", "a", 0)),), (("ask", 1, ("add", "a", 0)),)), ((("fall", ()),), (("fall", (1,)),)),
        ):
            engines = [start.copied(), start.copied()]
            for engine, steps in zip(engines, (one, other)):
                for step in steps:
                    step_of(engine, step)
            self.assertIs(False, engines[0] == engines[1], (one, other))
            self.assertIs(True, engines[0] == engines[0].copied())

    def test_other_values(self):
        for engine in (Engine(), engine_after(*ONE), engine_after(*ONE, ("fall", ()))):
            for thing in ODD:
                if not isinstance(thing, Engine):
                    self.assertIs(False, engine == thing)
                    self.assertIs(True, engine != thing)
        self.assertIs(True, Engine() == Engine())


class TestWrongValues(unittest.TestCase):
    def up(self):
        return engine_after(
            ("start", 1), ("start", 2), *whole(1, 0, ("add", "a", 5)), ("ask", 1, ("add", "a", 1)),
            ("ask", 2, ("read", "b")),
            ("force",), ("start", 3), *whole(3, 3, ("read", "c"), 0), ("start", 4), *whole(4, 4, ("read", "c"), 0),
            ("drop", 4),
        )

    def both(self, engine, step, expected):
        """Tests that a method, by position and by name, raises an error, and leaves an engine as it is."""
        names = {"up": "come_up", "amid": "come_up_amid"}
        name = names.get(step[0], step[0])
        before = engine.copied()
        for call in (
            lambda: getattr(engine, name)(*step[1:]),
            lambda: getattr(engine, name)(**dict(zip(CLASSES[Engine][name], step[1:]))),
        ):
            try:
                call()
            except CutError as error:
                told = (error.__class__.__name__, (list(vars(error).values()) + [None])[0])
                self.assertEqual(expected[0], told[0], step)
                self.assertEqual(repr(expected[1]), repr(told[1]), step)
                self.assertTrue(isinstance(expected[1], (int, str, tuple)) or expected[1] is told[1])
            else:
                self.fail(step)
            self.assertEqual(before, engine)

    def test_each_value(self):
        """In each place each other value, with all later places good, and wrong."""
        engine = self.up()
        opened = {t: state for t, state, _ in engine.opened()}
        busy = [told[1] for told in engine.active()]
        values = list(ODD) + [0, 1, 2, 3, 4, 5, "1", (1,), [1], 10 ** 39, "kept", "dropped", b"1"]

        def idle(thing, *states):
            return is_natural_by_words(thing) and thing not in busy and opened.get(thing) in states

        for thing in values:
            if not is_natural_by_words(thing) or thing in opened:
                self.both(engine, ("start", thing), ("BadTransaction", thing))
            if not idle(thing, "active"):
                self.both(engine, ("drop", thing), ("BadTransaction", thing))
                self.both(engine, ("ask", thing, ("read", "a")), ("BadTransaction", thing))
                self.both(engine, ("ask", thing, None), ("BadTransaction", thing))
            if not idle(thing, "dropping"):
                self.both(engine, ("back", thing), ("BadTransaction", thing))
            if not idle(thing, "active", "dropping"):
                self.both(engine, ("end", thing, "kept"), ("BadTransaction", thing))
                self.both(engine, ("end", thing, CutError), ("BadTransaction", thing))
            if repr(thing) != "'kept'":
                self.both(engine, ("end", 3, thing), ("BadEnd", thing))
            self.both(engine, ("end", 4, thing), ("BadEnd", thing))
            if not is_natural_by_words(thing) or thing != 1:
                self.both(engine, ("write", thing), ("BadOp", thing))
            if not is_natural_by_words(thing) or thing != 2:
                self.both(engine, ("finish", thing), ("BadOp", thing))
            if not is_natural_by_words(thing) or thing != 0:
                self.both(engine, ("flush", thing), ("BadNumber", thing))
            if thing != ():
                self.both(engine, ("fall", thing), ("BadLost", thing))

    def test_operations(self):
        engine = self.up()
        for operation in (("read", "a"), ("set", "a", 5), ("add", "abcdefghi", -1)):
            for thing in variants(operation):
                if not is_request_by_words(thing):
                    self.both(engine, ("ask", 3, thing), ("BadOperation", thing))
        for thing in (
            ("set", "a", 1, 0), ("set", "a"), ("add", "a"), ("add", "a", True), ("read", "a", 1), ("put", "a", 1),
            "read", ("set", "abcdefghij", 1), ("read", ""), ("read", "A"), ["read", "a"], ("read", ("a",)),
            (True, "a", 1),
        ):
            self.both(engine, ("ask", 3, thing), ("BadOperation", thing))
        for key in NO_WORDS:
            self.both(engine, ("ask", 3, ("read", key)), ("BadOperation", ("read", key)))

    def test_lost(self):
        engine = self.up()
        sectors, safe = engine.device()
        good = (safe, safe + 2)
        self.assertLess(safe + 2, len(sectors))
        for thing in variants(good) + [
            (safe - 1,), (len(sectors),), (safe + 1, safe), (safe, safe), [safe], (0,), ("0",), safe,
        ]:
            right = are_integers(thing) and sorted(set(thing)) == list(thing)
            if not right or not all(safe <= at < len(sectors) for at in thing):
                self.both(engine, ("fall", thing), ("BadLost", thing))
            else:
                self.assertIsNone(engine.copied().fall(thing))

    def test_down(self):
        """All methods but the five, whatever they are passed."""
        engine = self.up()
        device, disk, log = engine.device(), engine.disk(), engine.log()
        engine.fall(())
        down = (("pages",), ("worths",), ("opened",), ("active",), ("force",))
        for name in ("start", "drop", "back", "write", "finish", "flush", "fall"):
            down += tuple([(name, thing) for thing in ((), 1, None)])
        down += (("end", 1, "kept"), ("end", None, None), ("ask", 1, ("read", "a")), ("ask", None, None))
        for step in down:
            self.both(engine, step, ("Down", None))
        self.assertEqual(
            (device[0], disk, log, False), (engine.device()[0], engine.disk(), engine.log(), engine.is_up()),
        )
        self.assertEqual(engine, engine.copied())

    def test_up(self):
        engine = self.up()
        self.both(engine, ("up",), ("Up", None))
        for k, lost in ((0, ()), (None, None), (1, (0,)), (-1, ())):
            self.both(engine, ("amid", k, lost), ("Up", None))

    def test_coming_up_amid(self):
        engine = engine_after(*FILLED, ("ask", 1, ("set", "b", 7)), ("write", 3), ("write", 3), ("fall", ()))
        sectors, safe = mended(engine.device())
        rows = undone_by_words(engine.log())
        self.assertEqual(2, len(rows))
        for thing in list(ODD) + [3, -1, True, False, "1", (1,), 10 ** 39]:
            if not is_natural_by_words(thing) or thing > 2:
                self.both(engine, ("amid", thing, ()), ("BadNumber", thing))
                self.both(engine, ("amid", thing, None), ("BadNumber", thing))
        for k in range(3):
            many = len(sectors) + sum([len(sectors_of(row)) for row in rows[:k]])
            for thing in list(ODD) + [
                (many,), (safe - 1,), (0,), (many - 1, many), (True,), [many - 1], (many - 1, many - 1),
            ]:
                if thing != ():
                    self.both(engine, ("amid", k, thing), ("BadLost", thing))
            for lost in ((), (many - 1,), tuple(range(safe, many))):
                if not lost or lost[0] >= safe:
                    self.assertIsNone(engine.copied().come_up_amid(k, lost))

    def test_by_name(self):
        engine, other = Engine(), Engine()
        for name, args in (
            ("start", (1,)), ("ask", (1, ("add", "a", 5))), ("write", (0,)), ("finish", (0,)), ("drop", (1,)),
            ("back", (1,)),
            ("write", (1,)), ("finish", (1,)), ("end", (1, "dropped")), ("start", (2,)), ("end", (2, "kept")),
            ("flush", (0,)),
            ("start", (3,)), ("fall", ((5,),)), ("come_up_amid", (0, ())), ("come_up", ()), ("force", ()),
        ):
            if name == "fall":
                args = ((engine.device()[1],),)
            one = getattr(engine, name)(*args)
            two = getattr(other, name)(**dict(zip(CLASSES[Engine][name], args)))
            self.assertEqual(repr(one), repr(two))
            self.assertEqual(engine, other)

    def test_what_is_told_is_not_the_engine_itself(self):
        """Only the methods for which it is stated change an engine."""
        engine = self.up()
        before = engine.copied()
        for name in ("device", "disk", "log", "is_up", "pages", "worths", "opened", "active", "copied"):
            self.assertEqual(getattr(engine, name)(), getattr(engine, name)())
            self.assertEqual(before, engine)
        operation = ("add", "d", 5)
        engine.ask(3, operation)
        self.assertEqual(("add", "d", 5), operation)
        with self.assertRaises(BadTransaction):
            engine.start(3)


if __name__ == "__main__":
    unittest.main()
