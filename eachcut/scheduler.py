"""The most permissive scheduler that keeps a history right at every cut."""

from eachcut.checks import is_natural
from eachcut.conflicts import pairs_waiting, rivals_of
from eachcut.errors import BadTransaction, NotRight
from eachcut.histories import checked_record, open_in
from eachcut.judge import broken_by, judge_history
from eachcut.orders import settled, trail


class Present:
    """The end of a history that is right at every cut: what may come next, and who waits for whom.

    waits has for each transaction that is active or dropping those that it waits for, in ascending order;
    before has only the active ones, and free those of them that are not doomed, in an order of waiting.
    """

    def __init__(self, table, history):
        self.record = checked_record(table, history)
        certificate = judge_history(table, history)
        if len(certificate) > 1:
            raise NotRight(certificate)
        self.rivals = rivals_of(table, history)
        self.actives = self.all_in("active")
        self.waits = {u: self.waited_by(u) for u in sorted(self.actives + self.all_in("dropping"))}
        self.before = {u: self.waits[u] for u in self.actives}
        self.free = settled(self.before)

    def all_in(self, state):
        """The transactions in a state, in ascending order."""
        return [t for t in sorted(self.record.steps) if self.record.state(t) == state]

    def waited_by(self, u):
        """The transactions that u waits for, in ascending order."""
        pairs = pairs_waiting(self.record, self.rivals, u)
        return sorted(set([self.record.owners[i] for i, _ in pairs]))

    def does_allow(self, thing):
        """Whether any value is an allowed event."""
        return self.record.allows(thing) and broken_by(self.record, self.rivals, thing) is None


def may_happen(table, history, thing):
    """Whether any value is an allowed event."""
    return Present(table, history).does_allow(thing)


def next_in(present):
    """The steps that an allowed "back" can take back, in ascending order."""
    return tuple([i for i, t in present.record.owners.items() if present.does_allow(("back", t, i))])


def next_steps(table, history):
    """The steps that an allowed "back" can take back, in ascending order."""
    return next_in(Present(table, history))


def allowed(table, history):
    """All allowed events except "do" events, in ascending order."""
    present = Present(table, history)
    backs = [("back", present.record.owners[i], i) for i in next_in(present)]
    ends = [(end, t) for end in ("drop", "keep") for t in present.actives]
    return tuple(sorted(backs) + [event for event in ends if present.does_allow(event)])


def waits_for(table, history):
    """The pairs (u, t), u waiting for t, in ascending order."""
    return tuple([(u, t) for u, others in Present(table, history).waits.items() for t in others])


def doomed_in(present):
    """The doomed transactions, in ascending order."""
    return tuple([u for u in present.actives if u not in present.free])


def doomed(table, history):
    """The doomed transactions, in ascending order."""
    return doomed_in(Present(table, history))


def present_of_active(table, history, u):
    """The end of a history; raises BadTransaction for any value that is not an active transaction in it."""
    present = Present(table, history)
    if not is_natural(u) or u not in present.actives:
        raise BadTransaction(u)
    return present


def judge_transaction(table, history, u):
    """A certificate that an active transaction is doomed, or that it is free."""
    present = present_of_active(table, history, u)
    if u in present.free:
        return "free", present.free[:present.free.index(u) + 1]
    return "doomed", trail(present.before, present.free, u)


def is_free_order(present, items):
    """Whether different active transactions each wait only for earlier ones."""
    if len(set(items)) != len(items) or not all([t in present.actives for t in items]):
        return False
    return all([other in items[:at] for at, t in enumerate(items) for other in present.waits[t]])


def is_doomed_chain(present, items):
    """Whether each transaction waits for the next one, and the last one is dropping or equal to an earlier one."""
    if not all([other in present.waits.get(t, []) for t, other in zip(items, items[1:])]):
        return False
    return items[-1] in items[:-1] or present.record.state(items[-1]) == "dropping"


def transaction_holds(table, history, u, thing):
    """Whether any value is a certificate for an active transaction."""
    present = present_of_active(table, history, u)
    if not isinstance(thing, tuple) or len(thing) != 2:
        return False
    name, items = thing
    if not isinstance(items, tuple) or not items or not all([is_natural(t) for t in items]):
        return False
    if name == "free":
        return items[-1] == u and is_free_order(present, items)
    return name == "doomed" and items[0] == u and is_doomed_chain(present, items)


def finish(table, history):
    """A finish in which exactly the active transactions that are not doomed are kept."""
    present = Present(table, history)
    owners = present.record.owners
    lost = [i for i in open_in(present.record) if owners[i] not in present.free]
    keeps = [("keep", t) for t in present.free]
    drops = [("drop", t) for t in doomed_in(present)]
    return tuple(keeps + drops + [("back", owners[i], i) for i in lost])


def is_finish(table, history, thing):
    """Whether any value is a finish in which exactly the active transactions that are not doomed are kept."""
    present = Present(table, history)
    if not isinstance(thing, tuple):
        return False
    for event in thing:
        if not present.does_allow(event) or event[0] == "do":
            return False
        present.record.note(event)
    # These are all that were active or dropping at the beginning; none can be new without a "do".
    return all([present.record.state(t) == ("kept" if t in present.free else "gone") for t in present.waits])
