"""Runs of an engine as steps: their texts, what they show, and a bench on which they are tried."""

from eachcut.checks import integer_of, integer_text, is_integer, item_text
from eachcut.disks import is_key, operation_in
from eachcut.engine import Engine
from eachcut.errors import (
    BadKey, BadRun, BadStep, BadText, BadWorth, CutError, NotShown, NothingToRedo, NothingToUndo,
)
from eachcut.restarts import device_amid, undo_rows

# How many items each step has.
SIZES = {
    "start": 2, "ask": 3, "write": 2, "finish": 2, "drop": 2, "back": 2, "end": 3, "force": 1, "flush": 2, "fall": 2,
    "up": 1, "amid": 3,
}


def is_sized(thing):
    """Whether any value is a tuple with the name of a step and as many items as it has."""
    if not isinstance(thing, tuple) or not thing or not isinstance(thing[0], str):
        return False
    return thing[0] in SIZES and SIZES[thing[0]] == len(thing)


def answer_to(engine, step):
    """Calls the method of an engine for which a step stands, and returns what it returns."""
    word = step[0]
    if word == "start":
        return engine.start(step[1])
    if word == "ask":
        return engine.ask(step[1], step[2])
    if word == "write":
        return engine.write(step[1])
    if word == "finish":
        return engine.finish(step[1])
    if word == "drop":
        return engine.drop(step[1])
    if word == "back":
        return engine.back(step[1])
    if word == "end":
        return engine.end(step[1], step[2])
    if word == "force":
        return engine.force()
    if word == "flush":
        return engine.flush(step[1])
    if word == "fall":
        return engine.fall(step[1])
    if word == "up":
        return engine.come_up()
    return engine.come_up_amid(step[1], step[2])


def take(engine, step):
    """Takes a step with an engine and returns the answer; raises BadStep for any value that is not possible."""
    if not is_sized(step):
        raise BadStep(step)
    try:
        return answer_to(engine, step)
    except CutError:
        raise BadStep(step) from None


def run_engine(run):
    """The engine after a run; raises BadRun with the first step that is not possible."""
    if not isinstance(run, tuple):
        raise BadRun(run)
    engine = Engine()
    for step in run:
        try:
            take(engine, step)
        except BadStep:
            raise BadRun(step) from None
    return engine


def step_text(step):
    """The text of a possible step."""
    items = step
    if step[0] == "ask":
        items = step[:2] + step[2]
    elif step[0] in ("fall", "amid"):
        lost = ",".join([integer_text(at) for at in step[-1]])
        items = step[:-1] + ((lost,) if lost else ())
    return " ".join([item_text(item) for item in items])


def run_text(run):
    """The text of a run."""
    return "\n".join([step_text(step) for step in run])


def step_in(line):
    """What a line of a text stands for; perhaps no step."""
    word, *items = line.split(" ")
    if word in ("fall", "amid"):
        # Only if an item is left behind the other ones, there are lost sectors.
        many = SIZES[word] - 2
        lost = [integer_of(at) for item in items[many:] for at in item.split(",")]
        return (word,) + tuple([integer_of(item) for item in items[:many]]) + (tuple(lost),)
    if word == "ask":
        return word, integer_of(" ".join(items[:1])), operation_in(items[1:])
    if word == "end":
        return (word,) + tuple([integer_of(item) for item in items[:1]] + items[1:])
    return (word,) + tuple([integer_of(item) for item in items])


def read_run(text):
    """The run with a text."""
    if not isinstance(text, str):
        raise BadText(text)
    run = tuple([step_in(line) for line in text.split("\n")]) if text else ()
    try:
        run_engine(run)
    except BadRun:
        raise BadText(text) from None
    # What stands in the text otherwise than in the run's own text is found by writing the run again.
    if run_text(run) != text:
        raise BadText(text)
    return run


def loose(device):
    """The positions of the sectors of a device that are not safe."""
    sectors, safe = device
    return tuple(range(safe, len(sectors)))


def candidates_up(engine):
    """Steps of which some are possible with an engine that is up."""
    found = [("force",), ("fall", ()), ("fall", loose(engine.device()))]
    found.extend([("flush", n) for n in range(len(engine.pages()))])
    found.extend([(word, told[0]) for told in engine.active() for word in ("write", "finish")])
    for told in engine.opened():
        t = told[0]
        found.extend([("drop", t), ("back", t), ("end", t, "kept"), ("end", t, "dropped")])
    return found


def candidates_down(engine):
    """The steps that are possible with an engine that is down."""
    rows = undo_rows(engine.log())
    found = [("up",)]
    for k in range(len(rows) + 1):
        found.extend([("amid", k, ()), ("amid", k, loose(device_amid(engine.device(), rows[:k])))])
    return found


def is_possible(engine, step):
    """Whether a step is possible with an engine, which stays as it is."""
    try:
        take(engine.copied(), step)
    except BadStep:
        return False
    return True


def possible(run):
    """The possible steps after a run but starts and asks, that lose all that is not safe, or nothing."""
    engine = run_engine(run)
    found = candidates_up(engine) if engine.is_up() else candidates_down(engine)
    return tuple(sorted(set([step for step in found if is_possible(engine, step)])))


def take_back(engine, t):
    """Compensates the last done op of a dropping transaction of an engine on which no op is active."""
    op = engine.back(t)[1]
    many = len(engine.active()[0][5])
    for _ in range(many):
        engine.write(op)
    engine.finish(op)


def settled_worths(engine):
    """The worths in the end of an engine, which is changed: it falls, comes up, and takes back what is open."""
    if engine.is_up():
        engine.fall(())
    engine.come_up()
    done = {op: t for t, _, pairs in engine.opened() for op, _ in pairs}
    rows = engine.log()
    for row in reversed(rows):
        if row[0] == "op" and row[2] in done:
            take_back(engine, row[1])
    opened = engine.opened()
    for told in opened:
        engine.end(told[0], "dropped")
    return engine.worths()


def worths_in_the_end(run):
    """The worths that are left if the engine falls after a run, comes up, and takes back what is open."""
    return settled_worths(run_engine(run))


def worth_shown(run, key):
    """The worth of a key in the end of a run."""
    return dict(worths_in_the_end(run)).get(key, 0)


def is_shown(run, key, worth):
    """Whether any tuple is a run that shows a key and a worth."""
    try:
        return worth_shown(run, key) == worth
    except BadRun:
        return False


def does_run_show(run, key, worth):
    """Whether a run shows a key and a worth."""
    run_engine(run)
    if not is_key(key):
        raise BadKey(key)
    if not is_integer(worth):
        raise BadWorth(worth)
    return is_shown(run, key, worth)


def check_shown(run, key, worth):
    """Raises BadRun, BadKey, BadWorth, and NotShown if the run does not show the key and the worth."""
    if not does_run_show(run, key, worth):
        raise NotShown(key)


def one_less(run, key, worth):
    """A run that results from omitting one step and shows a key and a worth, None if there is none."""
    for at in range(len(run)):
        shorter = run[:at] + run[at + 1:]
        if is_shown(shorter, key, worth):
            return shorter
    return None


def is_tight(run, key, worth):
    """Whether no run that results from omitting one step shows what a run shows."""
    check_shown(run, key, worth)
    return one_less(run, key, worth) is None


def shortened(run, key, worth):
    """A tight run that results from omitting steps, and shows the same."""
    check_shown(run, key, worth)
    found = run
    shorter = one_less(found, key, worth)
    while shorter is not None:
        found = shorter
        shorter = one_less(found, key, worth)
    return found


class Bench:
    """A run that grows step by step, and the steps that were removed and can be appended again."""

    def __init__(self):
        self._steps = ()
        self._removed = ()
        self._engine = Engine()

    def do(self, step):
        """Appends a step and returns the answer to it."""
        answer = take(self._engine, step)
        self._steps = self._steps + (step,)
        self._removed = ()
        return answer

    def undo(self):
        """Removes the last step."""
        if not self._steps:
            raise NothingToUndo()
        self._removed = self._steps[-1:] + self._removed
        self._steps = self._steps[:-1]
        self._engine = run_engine(self._steps)

    def redo(self):
        """Appends the step that was removed last."""
        if not self._removed:
            raise NothingToRedo()
        step = self._removed[0]
        take(self._engine, step)
        self._steps = self._steps + (step,)
        self._removed = self._removed[1:]

    def run(self):
        """The run."""
        return self._steps

    def engine(self):
        """A copy of the engine after the run."""
        return self._engine.copied()

    def text(self):
        """The text of the run."""
        return run_text(self._steps)

    def copied(self):
        """An independent bench with the same run and the same steps to append again."""
        other = Bench()
        other._steps = self._steps
        other._removed = self._removed
        other._engine = self._engine.copied()
        return other
