"""Two levels: an operation of the high level is a transaction of the low one."""

from eachcut.checks import is_natural
from eachcut.conflicts import rivals_of
from eachcut.errors import BadCut, BadRun, BadStore
from eachcut.histories import open_in, record_of, serial_in, word_in
from eachcut.judge import history_holds, judge_history
from eachcut.tables import check_table
from eachcut.tokens import after_word, do_commute, is_fitting


def is_item(thing):
    """Whether any value is a pair of the name of a level and something."""
    return isinstance(thing, tuple) and len(thing) == 2 and thing[0] in ("low", "high")


def events_on(level, run):
    """The events of a run on one level."""
    return tuple([event for name, event in run if name == level])


def is_low_keep(item):
    """Whether an item of a run is a low "keep", which is no moment of its own."""
    return item[0] == "low" and item[1][0] == "keep"


def does_operate(event):
    """Whether a high event is one that a low transaction can carry out."""
    return event[0] in ("do", "back")


def is_carried(run, at):
    """Whether there is an item at a place of a run that a low transaction can carry out."""
    return at < len(run) and run[at][0] == "high" and does_operate(run[at][1])


def is_run(low, high, thing):
    """Whether any value is a run of two levels."""
    check_table(low)
    check_table(high)
    if not isinstance(thing, tuple) or not all([is_item(item) for item in thing]):
        return False
    if record_of(low[0], events_on("low", thing)) is None or record_of(high[0], events_on("high", thing)) is None:
        return False
    return all([is_carried(thing, at + 1) for at, item in enumerate(thing) if is_low_keep(item)])


def check_run(low, high, run):
    """Raises BadTable, and BadRun for any value that is not a run of two levels."""
    if not is_run(low, high, run):
        raise BadRun(run)


def low_history(low, high, run):
    """The low history of a run."""
    check_run(low, high, run)
    return events_on("low", run)


def high_history(low, high, run):
    """The high history of a run."""
    check_run(low, high, run)
    return events_on("high", run)


def carriers_in(run):
    """For each place of a high "do" or "back" in the high history what carries it out, None if it is empty."""
    found, place, keeping = {}, 0, None
    for level, event in run:
        if level == "high":
            if does_operate(event):
                found[place] = keeping
            place += 1
        keeping = event[1] if is_low_keep((level, event)) else None
    return found


def carriers(low, high, run):
    """For each high "do" and "back" event the low transaction that carries it out, None if it is empty."""
    check_run(low, high, run)
    return tuple(list(carriers_in(run).values()))


def judge_run(low, high, run):
    """A certificate that a run is right on both levels, or that it is wrong on one."""
    check_run(low, high, run)
    for level, table in (("low", low), ("high", high)):
        certificate = judge_history(table, events_on(level, run))
        if len(certificate) > 1:
            return level, certificate
    return ("right",)


def run_holds(low, high, run, thing):
    """Whether any value is a certificate for a run."""
    judged = judge_run(low, high, run)
    if not isinstance(thing, tuple):
        return False
    if len(thing) != 2:
        return thing == ("right",) and judged == ("right",)
    name, certificate = thing
    for level, table in (("low", low), ("high", high)):
        if name == level:
            # ("right",) may hold for one of the histories, but it says nothing against the run.
            return history_holds(table, events_on(level, run), certificate) and len(certificate) > 1
    return False


def word_of_carrier(low_record, t):
    """The serial word of what carries out a high event, () for nothing."""
    return () if t is None else serial_in(low_record, (t,))


def effects_in(low_record, moves, start, run):
    """For each place of a high "do" or "back" its effect, as the tokens afterwards."""
    found = {}
    for place, t in carriers_in(run).items():
        found[place] = after_word(moves, start, word_of_carrier(low_record, t))
    return found


def do_effects_fit(high, highs, effects, start):
    """Whether effects that do not conflict commute, and each "back" has the inverse effect of its step."""
    rivals = rivals_of(high, highs)
    steps = {place: place if highs[place][0] == "do" else highs[place][2] for place in effects}
    for place, i in steps.items():
        for earlier, j in steps.items():
            if earlier >= place:
                continue
            # The same step twice is a "do" and its "back".
            if i == j and [effects[place][token] for token in effects[earlier]] != list(start):
                return False
            if i != j and j not in rivals[i] and not do_commute(effects[place], effects[earlier]):
                return False
    return True


def is_fitting_both(low, high, run, thing):
    """Whether any value is a two-level store for a run."""
    lows = events_on("low", run)
    low_record = record_of(low[0], lows)
    if not is_fitting(low_record, rivals_of(low, lows), thing):
        return False
    many, moves = thing
    start = tuple(range(many))
    return do_effects_fit(high, events_on("high", run), effects_in(low_record, moves, start, run), start)


def is_two_level_store(low, high, run, thing):
    """Whether any value is a two-level store for a run."""
    check_run(low, high, run)
    return is_fitting_both(low, high, run, thing)


def is_cut(run, thing):
    """Whether any value is a cut of a run."""
    if not is_natural(thing) or thing > len(run):
        return False
    return thing == 0 or not is_low_keep(run[thing - 1])


def word_after(low, high, run):
    """The low word of a run, of the restart of its low level, and then of the restart of its high level."""
    lows = events_on("low", run)
    low_record = record_of(low[0], lows)
    word = word_in(low_record, lows)
    carried = carriers_in(run)
    for step in open_in(record_of(high[0], events_on("high", run))):
        done = word_of_carrier(low_record, carried[step])
        word = word + tuple([(i, -1) for i, _ in reversed(done)])
    return word


def result_after(low, high, run, p, store):
    """The result of a run up to a cut, and of the restarts of both levels."""
    check_run(low, high, run)
    if not is_cut(run, p):
        raise BadCut(p)
    if not is_fitting_both(low, high, run, store):
        raise BadStore(store)
    many, moves = store
    return after_word(moves, tuple(range(many)), word_after(low, high, run[:p]))
