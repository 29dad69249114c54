import random
import unittest

from eachcut.engine import Engine
from eachcut.histories import is_history, open_at, word_at
from eachcut.judge import is_right, judge_history
from eachcut.levels import carriers, high_history, is_run, judge_run, low_history
from eachcut.others import is_strict
from eachcut.tables import is_table
from eachcut.views import (
    kept_worths, lower_history, lower_table, two_level_run, upper_history, upper_table,
)
from helper import (
    ODD, both_ways, drawn_life, drawn_lives, drawn_lost, exclude_by_words, kept_worths_by_words, raises, rejects,
    settle,
    step_of, variants,
)

NAMES = ("upper_history", "upper_table", "lower_history", "lower_table", "two_level_run", "kept_worths")


def run_of(*steps):
    engine = Engine()
    for step in steps:
        answer = step_of(engine, step)
        assert answer is None or answer[0] in ("begun", "done", "worth"), (step, answer)
    return engine


def whole(t, op, operation, writes=1):
    return (("ask", t, operation),) + (("write", op),) * writes + (("finish", op),)


def compensated(t, op, writes=1):
    return (("back", t),) + (("write", op),) * writes + (("finish", op),)


def kind_by_words(operation):
    return {"read": "r", "set": "s", "add": "a"}[operation[0]] + operation[1]


def upper_by_words(rows):
    """The upper history, with the place of each event's row: (place, event)."""
    found = []
    dos = {}
    for at, row in enumerate(rows):
        earlier = rows[:at]
        if row[0] == "op":
            dos[row[2]] = len(found)
            found.append((at, ("do", row[1], kind_by_words(row[3]))))
        dropping = row[0] == "comp" or row[0] == "end" and row[2] == "dropped"
        first = not any(other[0] == "comp" and other[1] == row[1] for other in earlier)
        if dropping and first and any(other[0] == "op" and other[1] == row[1] for other in earlier):
            found.append((at, ("drop", row[1])))
        if row[0] == "comp":
            found.append((at, ("back", row[1], dos[row[3]])))
        if row[0] == "end" and row[2] == "kept" and any(other[0] == "op" and other[1] == row[1] for other in earlier):
            found.append((at, ("keep", row[1])))
    return found


def lower_by_words(rows):
    """The lower history, with the place of each event's row."""
    found = []
    dos = {}
    for at, row in enumerate(rows):
        if row[0] == "page":
            dos.setdefault(row[1], []).append(len(found))
            found.append((at, ("do", row[1], "w" + "abcdefghijklmnopqrstuvwxyz"[row[2]])))
        if row[0] == "unpage":
            backs = len([other for other in rows[:at] if other[:2] == ("unpage", row[1])])
            if backs == 0:
                found.append((at, ("drop", row[1])))
            # The last one first.
            found.append((at, ("back", row[1], dos[row[1]][-1 - backs])))
        if row[0] in ("op", "comp") and row[2] in dos:
            found.append((at, ("keep", row[2])))
    return found


def run_by_words(rows):
    """Both levels in one: at each row the high "drop", then the low events, then the other high ones."""
    items = [((at, 0 if event[0] == "drop" else 2), ("high", event)) for at, event in upper_by_words(rows)]
    items += [((at, 1), ("low", event)) for at, event in lower_by_words(rows)]
    return tuple([item for _, item in sorted(items, key=lambda pair: pair[0])])


def tables_by_words(rows):
    operations = {kind_by_words(row[3]): row[3] for row in rows if row[0] == "op"}
    uppers = tuple(sorted(operations))
    pairs = [(one, other) for one in uppers for other in uppers if one <= other]
    pairs = [(one, other) for one, other in pairs if exclude_by_words(operations[one], operations[other])]
    lowers = tuple(sorted({event[2] for _, event in lower_by_words(rows) if event[0] == "do"}))
    return (uppers, tuple(pairs)), (lowers, tuple([(kind, kind) for kind in lowers]))


class TestViews(unittest.TestCase):
    def check_engine(self, engine):
        """Tests all views of an engine, and what is said of them."""
        rows = engine.log()
        upper, lower, run = upper_history(engine), lower_history(engine), two_level_run(engine)
        self.assertEqual(tuple([event for _, event in upper_by_words(rows)]), upper)
        self.assertEqual(tuple([event for _, event in lower_by_words(rows)]), lower)
        self.assertEqual(run_by_words(rows), run)
        high, low = upper_table(engine), lower_table(engine)
        self.assertEqual(tables_by_words(rows), (high, low))
        self.assertEqual(kept_worths_by_words(rows, True), kept_worths(engine))
        self.assertEqual(kept_worths_by_words(rows, False), kept_worths(engine))
        self.check_guarantee(high, low, upper, lower, run)

    def check_guarantee(self, high, low, upper, lower, run):
        """[13.4], but for the restart."""
        self.assertIs(True, is_table(high) and is_table(low))
        self.assertIs(True, is_history(high, upper) and is_history(low, lower))
        self.assertIs(True, is_right(high, upper), (high, upper))
        self.assertIs(True, is_right(low, lower), (low, lower))
        self.assertEqual(("right",), judge_history(high, upper))
        self.assertIs(True, is_strict(high, upper), (high, upper))
        self.assertIs(True, is_run(low, high, run))
        self.assertEqual(("right",), judge_run(low, high, run))
        self.assertEqual((lower, upper), (low_history(low, high, run), high_history(low, high, run)))

    def check_restart(self, engine):
        """The compensations by an engine that has come up are what a restart takes back."""
        high, before = upper_table(engine), upper_history(engine)
        after = engine.copied()
        settle(after)
        self.check_engine(after)
        self.assertEqual(high, upper_table(after))
        upper = upper_history(after)
        self.assertEqual(before, upper[:len(before)])
        backs = tuple([event[2] for event in upper[len(before):] if event[0] == "back"])
        self.assertEqual(open_at(high, before, len(before)), backs)
        self.assertEqual(word_at(high, before, len(before)), word_at(high, upper, len(upper)))
        self.assertEqual(kept_worths(after), after.worths())
        self.assertEqual(kept_worths(engine), kept_worths(after))

    def test_drawn_lives(self):
        empty = carried = 0
        for run in drawn_lives(40):
            engine = Engine()
            for at, step in enumerate(run):
                step_of(engine, step)
                if at % 6 == 0 or step[0] in ("up", "fall", "amid"):
                    self.check_engine(engine)
                if step[0] == "up":
                    self.check_restart(engine)
            told = carriers(lower_table(engine), upper_table(engine), two_level_run(engine))
            empty += told.count(None)
            carried += len(told) - told.count(None)
        self.assertLess(50, min(empty, carried))

    def test_falls_at_every_place(self):
        for seed in range(12):
            chance = random.Random(seed)
            engine = Engine()
            for step in drawn_life(3000 + seed, 30):
                step_of(engine, step)
                down = engine.copied()
                if down.is_up():
                    down.fall(drawn_lost(chance, down.device()))
                self.check_engine(down)
                down.come_up()
                self.check_engine(down)
                self.check_restart(down)

    def test_new(self):
        engine = Engine()
        self.assertEqual(((), ((), ()), (), ((), ()), (), ()), tuple([both_ways(name, engine) for name in NAMES]))
        engine.start(1)
        engine.end(1, "kept")
        engine.start(2)
        engine.drop(2)
        engine.end(2, "dropped")
        self.assertEqual(((), ((), ()), (), ((), ()), (), ()), tuple([both_ways(name, engine) for name in NAMES]))

    def test_ordinary(self):
        engine = run_of(
            ("start", 1), ("start", 2), *whole(1, 0, ("add", "b", 5)), *whole(2, 1, ("add", "b", -5)),
            *whole(2, 2, ("read", "a"), 0), *whole(1, 3, ("set", "ab", 2)), ("end", 1, "kept"), ("drop", 2),
            *compensated(2, 4, 0), *compensated(2, 5), ("end", 2, "dropped"),
        )
        upper = (
            ("do", 1, "ab"), ("do", 2, "ab"), ("do", 2, "ra"), ("do", 1, "sab"), ("keep", 1), ("drop", 2),
            ("back", 2, 2),
            ("back", 2, 1),
        )
        self.assertEqual(upper, both_ways("upper_history", engine))
        self.assertEqual((("ab", "ra", "sab"), (("sab", "sab"),)), both_ways("upper_table", engine))
        lower = (
            ("do", 0, "wa"), ("keep", 0), ("do", 1, "wa"), ("keep", 1), ("do", 3, "wa"), ("keep", 3), ("do", 5, "wa"),
            ("keep", 5),
        )
        self.assertEqual(lower, both_ways("lower_history", engine))
        self.assertEqual((("wa",), (("wa", "wa"),)), both_ways("lower_table", engine))
        run = (
            ("low", lower[0]), ("low", lower[1]), ("high", upper[0]), ("low", lower[2]), ("low", lower[3]),
            ("high", upper[1]),
            ("high", upper[2]), ("low", lower[4]), ("low", lower[5]), ("high", upper[3]), ("high", upper[4]),
            ("high", upper[5]), ("high", upper[6]), ("low", lower[6]), ("low", lower[7]), ("high", upper[7]),
        )
        self.assertEqual(run, both_ways("two_level_run", engine))
        self.assertEqual((0, 1, None, 3, None, 5), carriers(lower_table(engine), upper_table(engine), run))
        self.assertEqual((("ab", 2), ("b", 5)), both_ways("kept_worths", engine))
        self.check_engine(engine)

    def test_unfinished_ops(self):
        """Their writes are taken back, the last one first; a split has writes of two pages."""
        full = (("start", 1),) + tuple([step for op, key in enumerate("ace") for step in whole(1, op, ("set", key, 1))])
        engine = run_of(
            *full, ("end", 1, "kept"), ("start", 2), ("ask", 2, ("set", "b", 1)), ("write", 3), ("write", 3),
        )
        before = both_ways("lower_history", engine)
        self.assertEqual((("do", 3, "wb"), ("do", 3, "wa")), before[-2:])
        self.assertEqual((("wa", "wb"), (("wa", "wa"), ("wb", "wb"))), both_ways("lower_table", engine))
        engine.fall(())
        self.assertEqual(before, both_ways("lower_history", engine))
        cut = engine.copied()
        cut.come_up_amid(1, ())
        self.assertEqual(before + (("drop", 3), ("back", 3, 7)), both_ways("lower_history", cut))
        cut.come_up()
        engine.come_up()
        after = before + (("drop", 3), ("back", 3, 7), ("back", 3, 6))
        self.assertEqual((after, after), (both_ways("lower_history", cut), both_ways("lower_history", engine)))
        self.assertEqual(7, len(upper_history(engine)) + 3)
        self.check_engine(engine)
        self.check_restart(engine)

    def test_dropped_without_compensations(self):
        """A "drop" comes before the first "comp" row; without one before the "end" row; without an op not at all."""
        engine = run_of(("start", 1), *whole(1, 0, ("read", "a"), 0), ("drop", 1))
        self.assertEqual((("do", 1, "ra"),), both_ways("upper_history", engine))
        step_of(engine, ("back", 1))
        self.assertEqual((("do", 1, "ra"),), both_ways("upper_history", engine))
        step_of(engine, ("finish", 1))
        self.assertEqual((("do", 1, "ra"), ("drop", 1), ("back", 1, 0)), both_ways("upper_history", engine))
        step_of(engine, ("end", 1, "dropped"))
        self.assertEqual((("do", 1, "ra"), ("drop", 1), ("back", 1, 0)), both_ways("upper_history", engine))
        self.assertEqual(
            (("high", ("do", 1, "ra")), ("high", ("drop", 1)), ("high", ("back", 1, 0))),
            both_ways("two_level_run", engine),
        )

    def test_kinds(self):
        """Kinds with long keys are words; keys that begin with the letter of another name are told apart."""
        engine = run_of(
            ("start", 1), *whole(1, 0, ("read", "abcdefghi"), 0), *whole(1, 1, ("set", "a", 0), 0),
            *whole(1, 2, ("add", "aa", 0), 0),
            *whole(1, 3, ("add", "a", 0), 0), *whole(1, 4, ("read", "a"), 0), *whole(1, 5, ("read", "aa"), 0),
        )
        kinds = ("aa", "aaa", "ra", "raa", "rabcdefghi", "sa")
        conflicts = (("aa", "ra"), ("aa", "sa"), ("aaa", "raa"), ("ra", "sa"), ("sa", "sa"))
        self.assertEqual((kinds, conflicts), both_ways("upper_table", engine))
        self.check_engine(engine)

    def test_kept_worths(self):
        """By the order of the "end" rows, and only of what is kept."""
        engine = run_of(
            ("start", 1), ("start", 2), ("start", 3), *whole(2, 0, ("add", "a", 2)), *whole(1, 1, ("add", "a", 3)),
            *whole(3, 2, ("set", "b", 4)), *whole(2, 3, ("add", "c", 0), 0), ("end", 2, "kept"),
        )
        self.assertEqual((("a", 2),), both_ways("kept_worths", engine))
        step_of(engine, ("end", 1, "kept"))
        self.assertEqual((("a", 5),), both_ways("kept_worths", engine))
        step_of(engine, ("end", 3, "kept"))
        self.assertEqual((("a", 5), ("b", 4)), both_ways("kept_worths", engine))
        self.assertEqual(engine.worths(), both_ways("kept_worths", engine))
        for step in (("start", 4),) + whole(4, 4, ("set", "b", 0)) + whole(4, 5, ("add", "a", -5)) + (
            ("end", 4, "kept"),
        ):
            step_of(engine, step)
        self.assertEqual((), both_ways("kept_worths", engine))
        self.assertEqual(engine.worths(), both_ways("kept_worths", engine))

    def test_down(self):
        engine = run_of(
            ("start", 1), *whole(1, 0, ("add", "a", 5)), ("end", 1, "kept"), ("start", 2),
            *whole(2, 1, ("add", "a", 1)),
        )
        before = [both_ways(name, engine) for name in NAMES]
        engine.fall(())
        self.assertEqual(before, [both_ways(name, engine) for name in NAMES])
        self.assertIs(False, engine.is_up())

    def test_more_pages(self):
        """Somewhat beyond the limits, the letters of pages still differ."""
        engine = run_of(("start", 1))
        for at in range(104):
            key = "abcdefghijklmnopqrstuvwxyz"[at % 26] + "kz"[at // 26 % 2] * (at // 26)
            op = engine.ask(1, ("set", key, at + 1))[1]
            while engine.active()[0][5]:
                engine.write(op)
            engine.finish(op)
        self.assertLess(26, len(engine.pages()))
        self.assertIs(True, is_table(lower_table(engine)))
        self.assertEqual(len(engine.pages()), len(lower_table(engine)[0]))
        self.assertIs(True, is_right(lower_table(engine), lower_history(engine)))


class TestWrongValues(unittest.TestCase):
    def test_no_engine(self):
        engine = run_of(("start", 1))
        for name in NAMES:
            for thing in ODD + (engine.log(), engine.device(), (engine,), [engine], Engine, None):
                if not isinstance(thing, Engine):
                    raises(self, "BadEngine", thing, name, thing)
            rejects(self, name, (engine,), (("BadEngine", lambda thing: isinstance(thing, Engine)),))

    def test_nothing_is_changed(self):
        engine = run_of(("start", 1), *whole(1, 0, ("add", "a", 5)), ("ask", 1, ("read", "b")))
        before = engine.copied()
        for name in NAMES:
            self.assertEqual(both_ways(name, engine), both_ways(name, engine))
            self.assertEqual(before, engine)
        self.assertLess(0, len(variants(engine)))


if __name__ == "__main__":
    unittest.main()
