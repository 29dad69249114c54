"""The judge: whether a history is right at a cut, and at every cut."""

from eachcut.checks import is_integer
from eachcut.conflicts import pairs_into, pairs_waiting, rivals_of
from eachcut.histories import Record, checked_record, is_order, kept_in, record_at, serial_in, word_in
from eachcut.orders import settled, trail
from eachcut.words import after_steps, steps_to


class Cut:
    """A cut of a history: its record, which of its steps conflict, the word at it, and the place of each letter."""

    def __init__(self, table, history, p):
        self.record = record_at(table, history, p)
        self.rivals = rivals_of(table, history[:p])
        self.word = word_in(self.record, history[:p])
        self.places = {letter: at for at, letter in enumerate(self.word)}


def are_caught(cut, i, j):
    """Whether i is taken back after the conflicting later step j is done and before j is taken back."""
    if (i, -1) not in cut.places:
        return False
    return cut.places[(j, 1)] < cut.places[(i, -1)] < cut.places.get((j, -1), len(cut.word))


def caught_in(cut):
    """The first pair of steps that is caught at a cut, None without one."""
    for i, others in cut.rivals.items():
        for j in others:
            if i < j and are_caught(cut, i, j):
                return i, j
    return None


def before_in(cut):
    """For each transaction kept within a cut those kept ones that have a conflicting step before one of it."""
    kept = kept_in(cut.record)
    before = {}
    for u in kept:
        owners = [cut.record.owners[i] for i, _ in pairs_into(cut.record, cut.rivals, u)]
        before[u] = {t: True for t in owners if t in kept}
    return before


def ring_in(cut):
    """A ring of transactions kept within a cut, None without one."""
    before = before_in(cut)
    order = settled(before)
    behind = [t for t in before if t not in order]
    if not behind:
        return None
    found = trail(before, order, behind[0])
    # The trail leads from later to earlier ones, and into the ring at the place of its last item.
    return tuple(reversed(found[found.index(found[-1]) + 1:]))


def wrong_at(cut):
    """A certificate "caught" or "ring" for a cut, None if the history is right there."""
    pair = caught_in(cut)
    if pair is not None:
        return ("caught",) + pair
    ring = ring_in(cut)
    return None if ring is None else ("ring", ring)


def judge_cut(table, history, p):
    """A certificate that a history is right at a cut, or that it is wrong there."""
    cut = Cut(table, history, p)
    wrong = wrong_at(cut)
    if wrong is not None:
        return wrong
    order = settled(before_in(cut))
    return "steps", order, steps_to(cut.rivals, cut.word, serial_in(cut.record, order))


def do_lead(cut, order, steps):
    """Whether any values are an order of the kept transactions, and rewritings to their serial word."""
    if not is_order(cut.record, order) or sorted(order) != sorted(kept_in(cut.record)):
        return False
    return after_steps(cut.rivals, cut.word, steps) == serial_in(cut.record, order)


def are_caught_steps(cut, i, j):
    """Whether any values are two steps that are caught at a cut."""
    if not is_integer(i) or not is_integer(j) or i not in cut.rivals:
        return False
    return i < j and j in cut.rivals[i] and are_caught(cut, i, j)


def is_ring(cut, thing):
    """Whether any value is a ring of transactions kept within a cut."""
    if not is_order(cut.record, thing) or len(thing) < 2:
        return False
    before = before_in(cut)
    if not all([u in before for u in thing]):
        return False
    return all([t in before[u] for t, u in zip(thing, thing[1:] + thing[:1])])


def does_certify(cut, thing):
    """Whether any value is a certificate for a cut."""
    if not isinstance(thing, tuple) or len(thing) not in (2, 3):
        return False
    if len(thing) == 2:
        return thing[0] == "ring" and is_ring(cut, thing[1])
    name, one, other = thing
    if name == "steps":
        return do_lead(cut, one, other)
    return name == "caught" and are_caught_steps(cut, one, other)


def cut_holds(table, history, p, thing):
    """Whether any value is a certificate for a cut."""
    return does_certify(Cut(table, history, p), thing)


def is_right_at(table, history, p):
    """Whether a history is right at a cut."""
    return wrong_at(Cut(table, history, p)) is None


def broken_by_back(record, rivals, i):
    """The conflicting steps (i, j) of which j must be taken back before i is."""
    return [(i, j) for j in rivals[i] if i < j < record.length and j not in record.taken]


def broken_by(record, rivals, event):
    """The first pair of steps that is caught after an event that is possible now, None without one.

    The history is right at every cut so far; rivals may be those of a longer one.
    """
    pairs = []
    if event[0] == "keep":
        pairs = pairs_waiting(record, rivals, event[1])
    elif event[0] == "back":
        pairs = broken_by_back(record, rivals, event[2])
    return pairs[0] if pairs else None


def judge_history(table, history):
    """A certificate that a history is right at every cut, or that it is wrong at its smallest wrong cut."""
    checked_record(table, history)
    rivals = rivals_of(table, history)
    record = Record(table[0])
    for event in history:
        pair = broken_by(record, rivals, event)
        record.note(event)
        if pair is not None:
            return "wrong", record.length, ("caught",) + pair
    return ("right",)


def history_holds(table, history, thing):
    """Whether any value is a certificate for a history."""
    judged = judge_history(table, history)
    if not isinstance(thing, tuple) or len(thing) != len(judged) or thing[0] != judged[0]:
        return False
    if len(thing) == 1:
        return True
    _, p, certificate = thing
    # There is never a ring at the smallest wrong cut: what certifies it is "caught".
    return is_integer(p) and p == judged[1] and does_certify(Cut(table, history, p), certificate)


def is_right(table, history):
    """Whether a history is right at every cut."""
    return judge_history(table, history) == ("right",)
