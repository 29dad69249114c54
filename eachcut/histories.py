"""Histories of transactions, their cuts, and the words at them."""

from eachcut.checks import is_integer, is_natural
from eachcut.errors import BadCut, BadHistory, BadOrder, BadTransaction
from eachcut.tables import check_table


class Record:
    """What the events of a history have done so far.

    owners has the transaction of each step, steps the positions of each transaction's steps, ends what
    ended it ("keep" or "drop"), and taken the position of the "back" of each step that is taken back.
    """

    def __init__(self, kinds):
        self.kinds = kinds
        self.length = 0
        self.owners = {}
        self.steps = {}
        self.ends = {}
        self.taken = {}

    def allows(self, thing):
        """Whether any value is an event that is possible now."""
        if not isinstance(thing, tuple) or len(thing) not in (2, 3):
            return False
        word, t, *rest = thing
        # Only now may t be looked up: not every value can be a key, and True would find 1.
        if not is_natural(t):
            return False
        if not rest:
            return self.allows_end(word, t)
        if word == "do":
            return rest[0] in self.kinds and t not in self.ends
        return word == "back" and self.allows_back(t, rest[0])

    def allows_end(self, word, t):
        """Whether a transaction can be kept or dropped now."""
        return word in ("keep", "drop") and t in self.steps and t not in self.ends

    def allows_back(self, t, i):
        """Whether i is the position of a step of t that can be taken back now."""
        if not is_integer(i) or self.ends.get(t) != "drop":
            return False
        return i in self.owners and self.owners[i] == t and i not in self.taken

    def note(self, event):
        """Adds an event that is possible now."""
        word, t = event[0], event[1]
        if word == "do":
            self.owners[self.length] = t
            self.steps.setdefault(t, []).append(self.length)
        elif word == "back":
            self.taken[event[2]] = self.length
        else:
            self.ends[t] = word
        self.length += 1

    def state(self, t):
        """The state of a transaction now."""
        if t not in self.steps:
            return "new"
        if t not in self.ends:
            return "active"
        if self.ends[t] == "keep":
            return "kept"
        left = [i for i in self.steps[t] if i not in self.taken]
        return "dropping" if left else "gone"


def record_of(kinds, thing):
    """The record of a history, None for any value that is not one for a table with these kinds."""
    if not isinstance(thing, tuple):
        return None
    record = Record(kinds)
    for event in thing:
        if not record.allows(event):
            return None
        record.note(event)
    return record


def checked_record(table, history):
    """The record of a history; raises BadTable and BadHistory."""
    check_table(table)
    record = record_of(table[0], history)
    if record is None:
        raise BadHistory(history)
    return record


def record_at(table, history, p):
    """The record of a cut of a history; raises BadTable, BadHistory and BadCut."""
    checked_record(table, history)
    if not is_natural(p) or p > len(history):
        raise BadCut(p)
    return record_of(table[0], history[:p])


def is_history(table, thing):
    """Whether any value is a history for a table."""
    check_table(table)
    return record_of(table[0], thing) is not None


def is_event(table, history, thing):
    """Whether any value is an event that is possible after a history."""
    return checked_record(table, history).allows(thing)


def state_of(table, history, t):
    """The state of a transaction at the end of a history."""
    record = checked_record(table, history)
    if not is_natural(t):
        raise BadTransaction(t)
    return record.state(t)


def kept_in(record):
    """The transactions that are kept now, in the order of their keep events."""
    return tuple([t for t, end in record.ends.items() if end == "keep"])


def kept_at(table, history, p):
    """The transactions that are kept within a cut, in the order of their keep events."""
    return kept_in(record_at(table, history, p))


def open_in(record):
    """The steps that a restart takes back now, from the last to the first."""
    left = [i for i, t in record.owners.items() if i not in record.taken and record.ends.get(t) != "keep"]
    return tuple(sorted(left, reverse=True))


def open_at(table, history, p):
    """The steps that the restart after a cut takes back, from the last to the first."""
    return open_in(record_at(table, history, p))


def word_in(record, events):
    """The word of some events, of which this is the record, and of a restart after them."""
    return tuple(letters_of(events) + [(i, -1) for i in open_in(record)])


def word_at(table, history, p):
    """The word at a cut: its steps and backs, and then the restart."""
    return word_in(record_at(table, history, p), history[:p])


def letters_of(events):
    """The letters of the events of a history from its beginning on."""
    letters = []
    for i, event in enumerate(events):
        if event[0] == "do":
            letters.append((i, 1))
        elif event[0] == "back":
            letters.append((event[2], -1))
    return letters


def is_order(record, thing):
    """Whether any value is a tuple of different transactions that have steps."""
    if not isinstance(thing, tuple):
        return False
    if not all([is_natural(t) and t in record.steps for t in thing]):
        return False
    return len(set(thing)) == len(thing)


def serial_in(record, order):
    """The word of all steps of some transactions that have steps, one transaction after another."""
    return tuple([(i, 1) for t in order for i in record.steps[t]])


def serial_word(table, history, order):
    """The word of all steps of some transactions, one transaction after another."""
    record = checked_record(table, history)
    if not is_order(record, order):
        raise BadOrder(order)
    return serial_in(record, order)
