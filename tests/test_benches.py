import random
import re
import unittest
from itertools import combinations

from eachcut.benches import (
    Bench, does_run_show, is_tight, possible, read_run, run_engine, shortened, worths_in_the_end,
)
from eachcut.disks import mended, sectors_of
from eachcut.engine import Engine
from eachcut.errors import CutError
from helper import (
    CLASSES, NO_WORDS, ODD, EngineByWords, are_integers, both_ways, drawn_life, drawn_lives, error_of, is_key_by_words,
    is_request_by_words, kept_worths_by_words, raises, rejects, run_examples, seen_of, settle, step_of, undone_by_words,
    variants,
)

RUN = (("start", 1), ("ask", 1, ("add", "a", 5)), ("write", 0), ("force",), ("finish", 0), ("end", 1, "kept"))
# Each step once: those of 2 are dropped, and one of 3 is cut twice.
LONG = RUN + (
    ("start", 2), ("ask", 2, ("set", "a", 7)), ("write", 1), ("finish", 1), ("ask", 2, ("read", "b")), ("finish", 2),
    ("drop", 2),
    ("back", 2), ("finish", 3), ("back", 2), ("write", 4), ("flush", 0), ("finish", 4), ("end", 2, "dropped"),
    ("start", 3),
    ("ask", 3, ("set", "c", -1)), ("write", 5), ("force",), ("start", 4), ("start", 5), ("fall", (19, 20)),
    ("amid", 1, (19, 20)), ("amid", 0, ()),
    ("up",), ("end", 3, "dropped"),
)

EXAMPLES = r"""
>>> from eachcut.benches import Bench, does_run_show, read_run, shortened, worths_in_the_end
>>> RUN = (("start", 1), ("ask", 1, ("add", "a", 5)), ("write", 0), ("force",), ("finish", 0), ("end", 1, "kept"))
>>> [worths_in_the_end(RUN), worths_in_the_end(RUN[:5]), shortened(RUN, "a", 5), does_run_show(RUN[:4], "a", 0), read_run("start 1\nask 1 add a 5\nwrite 0") == RUN[:3]]
[(('a', 5),), (), (('start', 1), ('ask', 1, ('add', 'a', 5)), ('write', 0), ('finish', 0), ('end', 1, 'kept')), True, True]
"""

NUMBER, WORTH, KEY = "(?:0|[1-9][0-9]*)", "(?:0|-?[1-9][0-9]*)", "[a-z]{1,9}"
OPERATION = f"(?:read {KEY}|(?:set|add) {KEY} {WORTH})"
LOST = f"(?: {NUMBER}(?:,{NUMBER})*)?"
LINE = "|".join([
    f"(?:start|write|finish|drop|back|flush) {NUMBER}", f"ask {NUMBER} {OPERATION}", f"end {NUMBER} (?:kept|dropped)",
    "force|up", f"fall{LOST}", f"amid {NUMBER}{LOST}",
])


def is_step_by_words(thing):
    """Whether any value has the form of a step."""
    if type(thing) is not tuple or thing == () or type(thing[0]) is not str:
        return False
    shapes = {
        "start": "n", "ask": "no", "write": "n", "finish": "n", "drop": "n", "back": "n", "end": "ne", "force": "",
        "flush": "n",
        "fall": "l", "up": "", "amid": "nl",
    }
    checks = {
        "n": lambda part: type(part) is int, "o": is_request_by_words, "l": are_integers,
        "e": lambda part: type(part) is str and part in ("kept", "dropped"),
    }
    shape = shapes.get(thing[0])
    if shape is None or len(shape) != len(thing) - 1:
        return False
    return all(checks[name](part) for name, part in zip(shape, thing[1:]))


def first_wrong_by_words(run):
    """The place of the first step that is not possible, None without one."""
    model = EngineByWords()
    for at, step in enumerate(run):
        if not is_step_by_words(step):
            return at
        answer = model.take(step)
        if answer is not None and answer[0] not in ("begun", "done", "worth", "waits", "latched"):
            return at
    return None


def is_run_by_words(thing):
    return type(thing) is tuple and first_wrong_by_words(thing) is None


def step_text_by_words(step):
    if step[0] == "ask":
        return " ".join([str(part) for part in step[:2] + step[2]])
    if step[0] in ("fall", "amid"):
        return " ".join([str(part) for part in step[:-1]] + [",".join([str(at) for at in step[-1]])]).rstrip(" ")
    return " ".join([str(part) for part in step])


def text_by_words(run):
    return "\n".join([step_text_by_words(step) for step in run])


def run_by_words(text):
    """The run with a text, None without one."""
    if type(text) is not str:
        return None
    steps = []
    for line in text.split("\n") if text else []:
        if not re.fullmatch(LINE, line):
            return None
        word, *parts = line.split(" ")
        if word == "ask":
            steps.append((word, int(parts[0]), tuple(parts[1:3]) + tuple([int(part) for part in parts[3:]])))
        elif word in ("fall", "amid"):
            lost = parts[1:] if word == "amid" else parts
            lost = tuple([int(at) for at in lost[0].split(",")]) if lost else ()
            steps.append((word, int(parts[0]), lost) if word == "amid" else (word, lost))
        else:
            steps.append((word,) + tuple([part if part.isalpha() else int(part) for part in parts]))
    return tuple(steps) if is_run_by_words(tuple(steps)) else None


def engine_by_words(run):
    engine = Engine()
    for step in run:
        step_of(engine, step)
    return engine


def worths_by_words(run):
    engine = engine_by_words(run)
    if engine.is_up():
        engine.fall(())
    engine.come_up()
    settle(engine)
    return engine.worths()


def is_shown_by_words(run, key, worth):
    return is_run_by_words(run) and dict(worths_by_words(run)).get(key, 0) == worth


def is_tight_by_words(run, key, worth):
    return not any(is_shown_by_words(run[:at] + run[at + 1:], key, worth) for at in range(len(run)))


def loose_of(device):
    return tuple(range(device[1], len(device[0])))


def possible_by_words(run):
    """All steps of all kinds with small numbers, and falls that lose nothing, or all that is not safe."""
    engine = engine_by_words(run)
    numbers = range(40)
    steps = [(word, n) for word in ("write", "finish", "drop", "back", "flush") for n in numbers]
    steps += [("end", n, end) for n in numbers for end in ("kept", "dropped")] + [("force",), ("up",)]
    steps += [("fall", lost) for lost in {(), loose_of(engine.device())}]
    sectors, safe = mended(engine.device())
    rows = undone_by_words(engine.log())
    for k in range(len(rows) + 3):
        lost = tuple(range(safe, len(sectors)))
        steps += [("amid", k, ()), ("amid", k, lost)]
        sectors += sectors_of(rows[k]) if k < len(rows) else ()
    return tuple(sorted({step for step in steps if is_possible_by_words(engine, step)}))


def is_possible_by_words(engine, step):
    answer = step_of(engine.copied(), step)
    return answer is None or answer[0] in ("begun", "done", "worth", "waits", "latched")


class TestRuns(unittest.TestCase):
    def test_examples(self):
        run_examples(self, EXAMPLES)

    def check_run(self, run):
        """Tests the engine, the text, the possible steps, and the worths in the end of a run."""
        self.assertEqual(engine_by_words(run), both_ways_engine(run))
        text = text_by_words(run)
        self.assertEqual(run, both_ways("read_run", text))
        bench = Bench()
        for step in run:
            bench.do(step)
        self.assertEqual(text, bench.text())
        self.assertEqual(engine_by_words(run), bench.engine())
        self.assertEqual(run, bench.run())
        self.assertEqual(possible_by_words(run), both_ways("possible", run))
        worths = both_ways("worths_in_the_end", run)
        self.assertEqual(worths_by_words(run), worths)
        rows = engine_by_words(run).log()
        for in_order_of_ends in (False, True):
            self.assertEqual(kept_worths_by_words(rows, in_order_of_ends), worths)
        for key in "abc":
            for worth in (0, 1, 5, dict(worths).get(key, 0)):
                shown = dict(worths).get(key, 0) == worth
                self.assertIs(shown, does_run_show(run, key, worth))

    def test_empty(self):
        self.check_run(())
        self.assertEqual(Engine(), run_engine(()))
        self.assertEqual((("fall", ()), ("flush", 0), ("force",)), both_ways("possible", ()))
        self.assertEqual((), both_ways("read_run", ""))
        self.assertEqual("", Bench().text())
        self.assertEqual((), both_ways("worths_in_the_end", ()))
        for worth, shown in ((0, True), (1, False), (-1, False)):
            self.assertIs(shown, both_ways("does_run_show", (), "a", worth))
        self.assertIs(True, both_ways("is_tight", (), "a", 0))
        self.assertEqual((), both_ways("shortened", (), "a", 0))
        raises(self, "NotShown", "a", "is_tight", (), "a", 1)
        raises(self, "NotShown", "a", "shortened", (), "a", 1)

    def test_each_step(self):
        self.assertEqual(12, len({step[0] for step in LONG}))
        for many in range(len(LONG) + 1):
            self.check_run(LONG[:many])
        lines = [
            "start 1", "ask 1 add a 5", "write 0", "force", "finish 0", "end 1 kept", "start 2", "ask 2 set a 7",
            "write 1",
            "finish 1", "ask 2 read b", "finish 2", "drop 2", "back 2", "finish 3", "back 2", "write 4", "flush 0",
            "finish 4",
            "end 2 dropped", "start 3", "ask 3 set c -1", "write 5", "force", "start 4", "start 5", "fall 19,20",
            "amid 1 19,20", "amid 0", "up",
            "end 3 dropped",
        ]
        self.assertEqual(LONG, both_ways("read_run", "\n".join(lines)))

    def test_drawn_runs(self):
        for seed in range(40):
            self.check_run(drawn_life(5000 + seed, random.Random(seed).randint(5, 40)))
        for run in drawn_lives(3):
            self.check_run(run)

    def test_all_short_runs(self):
        """All runs of at most three steps from some."""
        steps = (
            ("start", 0), ("ask", 0, ("add", "a", 1)), ("write", 0), ("finish", 0), ("drop", 0), ("back", 0),
            ("end", 0, "kept"),
            ("end", 0, "dropped"), ("force",), ("flush", 0), ("fall", ()), ("fall", (0,)), ("up",), ("amid", 0, ()),
            ("flush", 1),
            ("amid", 1, ()), ("start", 1),
        )
        found = [()]
        for run in found:
            if len(run) == 3:
                continue
            for step in steps:
                longer = run + (step,)
                if is_run_by_words(longer):
                    found.append(longer)
                    self.check_run(longer)
                else:
                    raises(self, "BadRun", step, "run_engine", longer)
                    raises(self, "BadText", text_by_words(longer), "read_run", text_by_words(longer))
        self.assertLess(100, len(found))

    def test_possible_steps(self):
        steps = (("back", 1), ("drop", 1), ("end", 1, "kept"))
        loose = (("fall", (0,)), ("flush", 0), ("force",))
        self.assertEqual((("drop", 1), ("end", 1, "kept"), ("fall", ())) + loose, both_ways("possible", RUN[:1]))
        self.assertEqual((("fall", ()),) + loose + (("write", 0),), both_ways("possible", RUN[:2]))
        after = both_ways("possible", RUN[:3])
        self.assertEqual((("fall", ()), ("fall", (0, 1, 2)), ("finish", 0), ("flush", 0), ("force",)), after)
        self.assertNotIn(steps[0], after)
        down = RUN[:4] + (("fall", ()),)
        self.assertEqual((("amid", 0, ()), ("amid", 1, ()), ("amid", 1, (3,)), ("up",)), both_ways("possible", down))
        dropping = RUN[:5] + (("drop", 1),)
        self.assertEqual(("back", 1), both_ways("possible", dropping)[0])
        self.assertEqual((("end", 1, "dropped"),), both_ways("possible", RUN[:1] + (("drop", 1),))[:1])
        # Ascending as tuples: numbers are not sorted as their texts.
        many = tuple([("start", t) for t in (10, 9, 2)])
        expected = tuple([("drop", t) for t in (2, 9, 10)]) + tuple([("end", t, "kept") for t in (2, 9, 10)])
        self.assertEqual(expected, both_ways("possible", many)[:6])

    def test_worths_in_the_end(self):
        """What is open is compensated from the last finished op to the first, over all transactions."""
        run = (("start", 1), ("start", 2))
        for at, (t, worth) in enumerate(((1, 2), (2, 3), (1, 4), (2, 5))):
            run += (("ask", t, ("add", "a", worth)), ("write", at), ("finish", at))
        self.assertEqual((), both_ways("worths_in_the_end", run))
        self.assertEqual((("a", 6),), both_ways("worths_in_the_end", run + (("end", 1, "kept"),)))
        self.assertEqual((("a", 8),), both_ways("worths_in_the_end", run + (("drop", 1), ("end", 2, "kept"))))
        # An op that is not finished, and one that is started late and finished first.
        run = RUN + (
            ("start", 2), ("ask", 2, ("set", "b", 1)), ("start", 3), ("ask", 3, ("read", "c")), ("write", 1),
            ("finish", 2),
        )
        self.assertEqual((("a", 5),), both_ways("worths_in_the_end", run))
        self.assertEqual((("a", 5),), both_ways("worths_in_the_end", run + (("finish", 1), ("drop", 2), ("back", 2))))
        # Nothing is lost in the fall at the end, but it may be before.
        self.assertEqual((("a", 5),), both_ways("worths_in_the_end", RUN + (("fall", ()),)))
        self.assertEqual((("a", 5),), both_ways("worths_in_the_end", RUN + (("fall", ()), ("amid", 0, ()))))


def both_ways_engine(run):
    one, other = run_engine(run), run_engine(run=run)
    assert one == other and one is not other
    return one


class TestShown(unittest.TestCase):
    def check_shortened(self, run, key, worth):
        """Tests whether a run is tight, and what it is shortened to."""
        if not is_shown_by_words(run, key, worth):
            raises(self, "NotShown", key, "is_tight", run, key, worth)
            raises(self, "NotShown", key, "shortened", run, key, worth)
            return
        tight = is_tight_by_words(run, key, worth)
        self.assertIs(tight, both_ways("is_tight", run, key, worth), (run, key, worth))
        found = both_ways("shortened", run, key, worth)
        self.assertEqual(tight, found == run)
        self.assertIs(True, is_shown_by_words(found, key, worth), (run, key, worth, found))
        self.assertIs(True, is_tight_by_words(found, key, worth), (run, key, worth, found))
        self.assertIs(True, is_tight(found, key, worth))
        places = iter(run)
        self.assertTrue(all(step in places for step in found))

    def test_ordinary(self):
        self.check_shortened(RUN, "a", 5)
        self.assertEqual(RUN[:3] + RUN[4:], both_ways("shortened", RUN, "a", 5))
        self.assertIs(False, both_ways("is_tight", RUN, "a", 5))
        self.assertIs(True, both_ways("is_tight", RUN[:3] + RUN[4:], "a", 5))
        for run in (RUN, RUN[:4], RUN[:1]):
            self.check_shortened(run, "b", 0)
            self.assertEqual((), both_ways("shortened", run, "b", 0))
        self.check_shortened(RUN, "a", 0)
        self.check_shortened(RUN, "b", 5)

    def test_which_worths(self):
        run = RUN + (("start", 2), ("ask", 2, ("set", "a", 0)), ("write", 1), ("finish", 1), ("end", 2, "kept"))
        self.assertIs(True, both_ways("does_run_show", run, "a", 0))
        self.assertIs(False, both_ways("does_run_show", run, "a", 5))
        self.assertIs(True, both_ways("does_run_show", run[:-1], "a", 5))
        self.check_shortened(run, "a", 0)
        twice = RUN + (("start", 2), ("ask", 2, ("add", "a", 5)), ("write", 1), ("finish", 1), ("end", 2, "kept"))
        self.check_shortened(twice, "a", 10)
        self.check_shortened(twice[:-1] + (("drop", 2),), "a", 5)

    def test_two_that_go_together(self):
        """A run that is tight, although it could be shorter by two steps: a fall, and the coming up behind it."""
        run = (("start", 1), ("fall", ()), ("up",))
        self.check_shortened(run, "a", 0)
        self.check_shortened((("fall", ()), ("up",)), "a", 0)
        self.assertIs(False, both_ways("is_tight", (("fall", ()), ("up",)), "a", 0))
        run = RUN[:1] + (("ask", 1, ("add", "b", 0)), ("finish", 0)) + (
            ("ask", 1, ("add", "a", 5)), ("write", 1), ("finish", 1), RUN[5],
        )
        self.check_shortened(run, "a", 5)

    def test_drawn_runs(self):
        found = []
        for seed in range(100):
            run = drawn_life(7000 + seed, 12, "ab")
            for key, worth in worths_by_words(run) + (("a", 0), ("b", 1)):
                self.check_shortened(run, key, worth)
                if worth and is_shown_by_words(run, key, worth):
                    found.append(len(shortened(run, key, worth)))
        self.assertLess(5, len(found))


class TestBenches(unittest.TestCase):
    def check_bench(self, bench, run, removed):
        """Tests what a bench tells, and what its copy can do again."""
        self.assertEqual(run, bench.run())
        self.assertEqual(text_by_words(run), bench.text())
        self.assertEqual(engine_by_words(run), bench.engine())
        self.assertEqual(seen_of(engine_by_words(run)), seen_of(bench.engine()))
        twin = bench.copied()
        for step in removed:
            self.assertIsNone(twin.redo())
        self.assertEqual(run + removed, twin.run())
        self.assertEqual(("NothingToRedo", {}), error_of(twin.redo))
        for _ in run + removed:
            self.assertIsNone(twin.undo())
        self.assertEqual((), twin.run())
        self.assertEqual(("NothingToUndo", {}), error_of(twin.undo))
        self.assertEqual(run, bench.run())

    def test_new(self):
        bench = Bench()
        self.check_bench(bench, (), ())
        self.assertEqual(("NothingToUndo", {}), error_of(bench.undo))
        self.assertEqual(("NothingToRedo", {}), error_of(bench.redo))

    def test_answers(self):
        """do returns what the method returns."""
        for run in (LONG,) + tuple(drawn_lives(6)):
            bench, engine = Bench(), Engine()
            for step in run:
                self.assertEqual(step_of(engine, step), bench.do(step))
        bench = Bench()
        more = (("start", 2), ("ask", 2, ("set", "a", 1)), ("ask", 2, ("set", "b", 1)))
        told = [bench.do(step) for step in RUN[:2] + more]
        self.assertEqual([None, ("begun", 0), None, ("waits", (1,)), ("latched", (0,))], told)
        self.assertEqual(5, len(bench.run()))

    def test_undo_and_redo(self):
        bench = Bench()
        for step in RUN:
            bench.do(step)
        self.check_bench(bench, RUN, ())
        for many in (5, 4, 3):
            self.assertIsNone(bench.undo())
            self.check_bench(bench, RUN[:many], RUN[many:])
        self.assertIsNone(bench.redo())
        self.check_bench(bench, RUN[:4], RUN[4:])
        bench.do(("flush", 0))
        self.check_bench(bench, RUN[:4] + (("flush", 0),), ())
        self.assertEqual(("NothingToRedo", {}), error_of(bench.redo))
        self.assertIsNone(bench.undo())
        self.check_bench(bench, RUN[:4], (("flush", 0),))
        self.assertIsNone(bench.redo())
        self.check_bench(bench, RUN[:4] + (("flush", 0),), ())

    def test_drawn_work(self):
        for seed in range(40):
            chance = random.Random(seed)
            run = drawn_life(9000 + seed, 25)
            bench, kept, removed = Bench(), (), ()
            for _ in range(60):
                word = chance.choice(("do", "do", "do", "undo", "redo", "wrong"))
                if word == "do" and len(kept) < len(run) and kept == run[:len(kept)]:
                    bench.do(run[len(kept)])
                    kept, removed = kept + (run[len(kept)],), ()
                elif word == "undo" and kept:
                    bench.undo()
                    kept, removed = kept[:-1], kept[-1:] + removed
                elif word == "redo" and removed:
                    bench.redo()
                    kept, removed = kept + removed[:1], removed[1:]
                elif word == "wrong":
                    self.assertEqual(("BadStep", {"thing": ("write", 99)}), error_of(bench.do, ("write", 99)))
                if chance.random() < 0.2:
                    self.check_bench(bench, kept, removed)
            self.check_bench(bench, kept, removed)

    def test_copies(self):
        bench = Bench()
        for step in RUN[:4]:
            bench.do(step)
        bench.undo()
        twin = bench.copied()
        twin.do(("flush", 0))
        self.check_bench(bench, RUN[:3], RUN[3:4])
        self.check_bench(twin, RUN[:3] + (("flush", 0),), ())
        bench.undo()
        self.check_bench(twin, RUN[:3] + (("flush", 0),), ())
        # An engine that is told is a copy.
        engine = bench.engine()
        engine.fall(())
        self.check_bench(bench, RUN[:2], RUN[2:4])

    def test_by_name(self):
        bench = Bench()
        self.assertIsNone(bench.do(step=RUN[0]))
        self.assertEqual(("begun", 0), bench.do(step=RUN[1]))
        self.assertEqual(("step",), CLASSES[Bench]["do"])

    def test_no_step(self):
        """Nothing changes, neither the run nor what can be done again."""
        bench = Bench()
        for step in RUN[:5]:
            bench.do(step)
        bench.undo()
        wrong = ODD + (
            ("begin", 1), ("start",), ("start", 1), ("start", 2, 3), ("start", True), ("start", "2"), ["start", 2],
            ("force", ()),
            ("force", 1), ("up",), ("amid", 0, ()), ("fall",), ("fall", 0), ("fall", (0,)), ("fall", [0]),
            ("fall", (99,)),
            ("flush", 1), ("write", 0), ("finish", 1), ("finish", None), ("back", 1), ("drop", 1), ("end", 1, "kept"),
            ("end", 1),
            ("ask", 1, ("read", "a")), ("ask", 1), ("device",), ("pages",), ("copied",), ("come_up",), ("check_up",),
            ("__init__",),
            (["start"], 2), ({}, 2), ((), 2), ("Start", 2), ("start ", 2), ("fall", ()) + ((),), (("start", 2),),
            ("up", None), CutError(),
        )
        for thing in wrong:
            for call in (lambda: bench.do(thing), lambda: bench.do(step=thing)):
                kind, attributes = error_of(call)
                self.assertEqual(("BadStep", ["thing"]), (kind, list(attributes)), thing)
                self.assertIs(thing, attributes["thing"])
                self.check_bench(bench, RUN[:4], RUN[4:5])
        down = Bench()
        down.do(("fall", ()))
        for thing in (
            ("force",), ("start", 1), ("fall", ()), ("amid", 1, ()), ("amid", 0, (0,)), ("amid", True, ()),
            ("amid", 0),
        ):
            self.assertEqual(("BadStep", {"thing": thing}), error_of(down.do, thing))
        self.check_bench(down, (("fall", ()),), ())

    def test_variants_of_steps(self):
        """Each step of a run with one part otherwise."""
        for at, step in enumerate(LONG):
            bench = Bench()
            for before in LONG[:at]:
                bench.do(before)
            for thing in variants(step):
                good = is_run_by_words(LONG[:at] + (thing,))
                if good:
                    self.assertEqual(step_of(engine_by_words(LONG[:at]), thing), bench.copied().do(thing))
                else:
                    self.assertEqual("BadStep", error_of(bench.do, thing)[0], thing)
            self.assertEqual(LONG[:at], bench.run())


class TestTexts(unittest.TestCase):
    def check_text(self, text):
        run = run_by_words(text)
        if run is None:
            raises(self, "BadText", text, "read_run", text)
        else:
            self.assertEqual(run, both_ways("read_run", text))

    def test_changed_texts(self):
        """A text with one character more, less or otherwise, and with two lines exchanged or one omitted."""
        text = text_by_words(LONG)
        lines = text.split("\n")
        self.assertEqual(LONG, run_by_words(text))
        for at in range(len(text) + 1):
            self.check_text(text[:at] + text[at + 1:])
            for sign in " \n-,+01ak":
                self.check_text(text[:at] + sign + text[at:])
        for at in range(len(lines)):
            self.check_text("\n".join(lines[:at] + lines[at + 1:]))
            self.check_text("\n".join(lines[:at] + lines[at:at + 1] + lines[at:]))
            self.check_text("\n".join(lines[:at]))
        for one, other in combinations(range(10), 2):
            swapped = list(lines)
            swapped[one], swapped[other] = lines[other], lines[one]
            self.check_text("\n".join(swapped))

    def test_wrong_texts(self):
        for text in (
            " ", "\n", "start 1\n", "\nstart 1", "start 1\n\nforce", "start 01", "start +1", "start -1", "start -0",
            "start", "start ",
            "start  1", "start 1 ", " start 1", "start 1 2", "start a", "start \u0661", "Start 1", "force ", "force 1",
            "up", "fall 0",
            "fall ", "fall ()", "fall 0,", "fall ,", "fall -1", "fall\nup ", "fall\namid", "fall\namid 0 ",
            "fall\namid 0 0", "fall\namid 1",
            "fall\namid  ", "fall\namid 00", "amid 0", "start 1\nask 1", "start 1\nask 1 read",
            "start 1\nask 1 read a 1",
            "start 1\nask 1 set a 1 0", "start 1\nask 1 set a", "start 1\nask 1 add a 01", "start 1\nask 1 add a -0",
            "start 1\nask 1 add  1", "start 1\nask 1 read A", "start 1\nask 1 read abcdefghij",
            "start 1\nask  1 read a", "ask", "ask ",
            "start 1\nfall 0,0", "start 1\nfall 0 ", "start 1\nfall  0", "start 1\nfall 00",
            "start 1\nstart 2\nfall 1,0",
            "start 1\nstart 2\nfall 0 1", "start 1\nstart 2\nfall 0, 1", "start 1\nend 1", "start 1\nend 1 keep",
            "start 1\nend 1 kept 1",
            "start 1\nend 1 dropped", "start 1\nend 01 kept", "start 1\r\nforce", "start 1\nstart 1", "write 0",
            "flush 1", "end", "end 1",
        ):
            self.assertIsNone(run_by_words(text), text)
            raises(self, "BadText", text, "read_run", text)
        for text in (
            "start 1\nstart 2\nfall 0,1", "fall\namid 0\nup", "start 0\nend 0 kept",
            "start 1\nfall\nup\nend 1 dropped",
        ):
            self.assertEqual(run_by_words(text), both_ways("read_run", text))

    def test_large_numbers(self):
        for number in (10 ** 9, 10 ** 39, 10 ** 64, 10 ** 70 + 1, 10 ** 900):
            run = (("start", number), ("ask", number, ("set", "a", -number)), ("write", 0))
            self.assertEqual(run, both_ways("read_run", text_by_words(run)))

    def test_no_text(self):
        for thing in ODD + (RUN, b"start 1", ["start 1"], ("start 1",), CutError(), Bench()):
            if thing != "":
                raises(self, "BadText", thing, "read_run", thing)


class TestWrongValues(unittest.TestCase):
    def test_no_run(self):
        """A value that is no tuple is named itself, otherwise the first step that is not possible."""
        for thing in ODD + (list(RUN), "start 1", CutError(), Bench(), Engine(), {RUN: 1}):
            if not isinstance(thing, tuple):
                for name, rest in (
                    ("run_engine", ()), ("possible", ()), ("worths_in_the_end", ()), ("does_run_show", (None, None)),
                    ("is_tight", (None, None)), ("shortened", (None, None)),
                ):
                    raises(self, "BadRun", thing, name, thing, *rest)

    def test_no_step(self):
        for at, step in enumerate(LONG):
            for thing in list(ODD) + [
                step[:-1], step + (0,), list(step), (step,), step[::-1], ("start", 1), ("write", 7),
            ]:
                run = LONG[:at] + (thing,) + LONG[at + 1:]
                wrong = first_wrong_by_words(run)
                if wrong is None:
                    self.assertEqual(engine_by_words(run), run_engine(run))
                    continue
                for name, rest in (("run_engine", ()), ("is_tight", (None, True))):
                    raises(self, "BadRun", run[wrong], name, run, *rest)
        for run in (RUN[1:], RUN + RUN[-1:], RUN[:2] + RUN[3:], RUN[::-1]):
            raises(self, "BadRun", run[first_wrong_by_words(run)], "possible", run)
            raises(self, "BadRun", run[first_wrong_by_words(run)], "worths_in_the_end", run)
            raises(self, "BadRun", run[first_wrong_by_words(run)], "shortened", run, "a", 5)

    def test_no_key(self):
        for name in ("does_run_show", "is_tight", "shortened"):
            for thing in NO_WORDS + ODD + ("abcdefghij", b"a", ("a",)):
                if not is_key_by_words(thing):
                    raises(self, "BadKey", thing, name, RUN, thing, 5)
                    raises(self, "BadKey", thing, name, RUN, thing, None)

    def test_each_argument(self):
        key, worth = ("BadKey", is_key_by_words), ("BadWorth", lambda thing: type(thing) is int)
        for name in ("does_run_show", "is_tight", "shortened"):
            rejects(self, name, (RUN, "a", 5), (None, key, worth))
        for thing in ODD + ("5", (5,), [5], True, 5.0):
            if type(thing) is not int:
                raises(self, "BadWorth", thing, "does_run_show", RUN, "a", thing)
                raises(self, "BadWorth", thing, "shortened", RUN, "z", thing)
        self.assertEqual(("NotShown", {"key": "abcdefghi"}), error_of(shortened, RUN, "abcdefghi", 5))
        self.assertEqual(("NotShown", {"key": "a"}), error_of(is_tight, RUN, "a", 10 ** 39))

    def test_same_call_twice(self):
        self.assertEqual(possible(LONG), possible(LONG))
        self.assertEqual(worths_in_the_end(LONG), worths_in_the_end(LONG))
        self.assertEqual(shortened(RUN, "a", 5), shortened(RUN, "a", 5))
        self.assertEqual(read_run(text_by_words(LONG)), read_run(text_by_words(LONG)))
        self.assertIs(True, does_run_show(RUN, "a", 5) and does_run_show(RUN, "a", 5))


if __name__ == "__main__":
    unittest.main()
