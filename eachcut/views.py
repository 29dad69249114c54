"""The runs of an engine as histories on two levels, as its log tells them."""

from eachcut.checks import LETTERS
from eachcut.engine import Engine
from eachcut.errors import BadEngine
from eachcut.locks import do_exclude, worth_after


class Story:
    """The events of both levels that the rows of a log tell, one after another.

    told has the items of the run so far, and lengths the number of events of each level. places has for each
    op the place of its "do" in the high history, writes for each op the places of its "do" events in the low
    history that are not taken back, doing the transactions that have a "do", and dropped the pairs of a level
    and a transaction that has a "drop" there.
    """

    def __init__(self):
        self.told = []
        self.lengths = {"low": 0, "high": 0}
        self.places = {}
        self.writes = {}
        self.doing = {}
        self.dropped = {}

    def tell(self, level, event):
        """Adds an event."""
        self.told.append((level, event))
        self.lengths[level] += 1

    def tell_drop(self, level, t):
        """Adds a "drop" if there is none yet."""
        if (level, t) not in self.dropped:
            self.dropped[(level, t)] = True
            self.tell(level, ("drop", t))

    def note_write(self, row):
        """Adds the events of a "page" or an "unpage" row."""
        op, n = row[1], row[2]
        if row[0] == "page":
            self.writes.setdefault(op, []).append(self.lengths["low"])
            self.tell("low", ("do", op, page_kind(n)))
        else:
            self.tell_drop("low", op)
            # The last write that is not yet taken back.
            self.tell("low", ("back", op, self.writes[op].pop()))

    def note_done(self, row):
        """Adds the events of an "op" or a "comp" row."""
        word, t, op, what = row
        if word == "comp":
            self.tell_drop("high", t)
        if op in self.writes:
            self.tell("low", ("keep", op))
        if word == "comp":
            self.tell("high", ("back", t, self.places[what]))
        else:
            self.places[op] = self.lengths["high"]
            self.doing[t] = True
            self.tell("high", ("do", t, kind_of(what)))

    def note_end(self, row):
        """Adds the event of an "end" row, if its transaction has done something."""
        _, t, end = row
        if t in self.doing and end == "kept":
            self.tell("high", ("keep", t))
        elif t in self.doing:
            self.tell_drop("high", t)


def kind_of(operation):
    """The kind of an operation on the upper level."""
    return operation[0][0] + operation[1]


def page_kind(n):
    """The kind of a write of the page n on the lower level."""
    letters = LETTERS[n % 26]
    while n >= 26:
        n = n // 26 - 1
        letters = LETTERS[n % 26] + letters
    return "w" + letters


def rows_of(engine):
    """The rows of the log of an engine; raises BadEngine."""
    if not isinstance(engine, Engine):
        raise BadEngine(engine)
    return engine.log()


def two_level_run(engine):
    """The run of two levels that the log of an engine tells."""
    story = Story()
    for row in rows_of(engine):
        if row[0] in ("page", "unpage"):
            story.note_write(row)
        elif row[0] in ("op", "comp"):
            story.note_done(row)
        elif row[0] == "end":
            story.note_end(row)
    return tuple(story.told)


def history_on(level, engine):
    """The events of an engine on one level."""
    return tuple([event for name, event in two_level_run(engine) if name == level])


def upper_history(engine):
    """The operations of an engine's transactions, and what became of them."""
    return history_on("high", engine)


def lower_history(engine):
    """The writes of an engine's ops, and what became of them."""
    return history_on("low", engine)


def upper_table(engine):
    """The table of the kinds of operations in the log of an engine."""
    operations = {kind_of(row[3]): row[3] for row in rows_of(engine) if row[0] == "op"}
    kinds = sorted(operations)
    pairs = [(one, other) for one in kinds for other in kinds if one <= other]
    return tuple(kinds), tuple([pair for pair in pairs if do_exclude(operations[pair[0]], operations[pair[1]])])


def lower_table(engine):
    """The table of the kinds of writes in the log of an engine: writes of one page conflict."""
    kinds = sorted(set([page_kind(row[2]) for row in rows_of(engine) if row[0] == "page"]))
    return tuple(kinds), tuple([(kind, kind) for kind in kinds])


def kept_worths(engine):
    """The worths that the kept transactions of an engine lead to, one transaction after another."""
    rows = rows_of(engine)
    worths = {}
    for t in [row[1] for row in rows if row[0] == "end" and row[2] == "kept"]:
        for operation in [row[3] for row in rows if row[0] == "op" and row[1] == t]:
            key = operation[1]
            worths[key] = worth_after(operation, worths.get(key, 0))
    return tuple([(key, worths[key]) for key in sorted(worths) if worths[key] != 0])
