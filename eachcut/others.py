"""Other schedulers: strict histories, plain ones, and how many interleavings of programs are of each kind."""

from eachcut.conflicts import rivals_of
from eachcut.errors import BadPrograms, NotStrict
from eachcut.histories import Record, checked_record, record_of
from eachcut.judge import is_right, is_right_at
from eachcut.tables import check_table

MOST_PROGRAMS = 4
MOST_OPERATIONS = 4


def does_stay_strict(record, rivals, event):
    """Whether a strict history stays so by an event that is possible now; rivals may be those of a longer one."""
    t = event[1]
    if event[0] == "do":
        held = [i for i in rivals[record.length] if i < record.length and i not in record.taken]
        return all([record.owners[i] == t or record.ends.get(record.owners[i]) == "keep" for i in held])
    if event[0] == "back":
        left = [i for i in record.steps[t] if i not in record.taken]
        return event[2] == left[-1]
    return True


def is_strict(table, history):
    """Whether conflicting steps wait for each other's ends, and each transaction is taken back from its last step."""
    checked_record(table, history)
    rivals = rivals_of(table, history)
    record = Record(table[0])
    for event in history:
        if not does_stay_strict(record, rivals, event):
            return False
        record.note(event)
    return True


def may_strictly(table, history, thing):
    """Whether any value is an event after which a strict history is strict."""
    if not is_strict(table, history):
        raise NotStrict()
    longer = history + (thing,)
    return record_of(table[0], longer) is not None and is_strict(table, longer)


def is_plain(table, history):
    """Whether a history has all transactions kept or gone at its end, and is right there."""
    record = checked_record(table, history)
    if not all([record.state(t) in ("kept", "gone") for t in record.steps]):
        return False
    return is_right_at(table, history, len(history))


def is_program(kinds, thing):
    """Whether any value is a tuple of 1 to 4 of these kinds."""
    if not isinstance(thing, tuple) or not 1 <= len(thing) <= MOST_OPERATIONS:
        return False
    return all([kind in kinds for kind in thing])


def are_programs(table, thing):
    """Whether any value is a tuple of 1 to 4 programs."""
    check_table(table)
    if not isinstance(thing, tuple) or not 1 <= len(thing) <= MOST_PROGRAMS:
        return False
    return all([is_program(table[0], program) for program in thing])


def threads_of(table, programs):
    """For each program the tuple of the events of its transaction; raises BadTable and BadPrograms."""
    if not are_programs(table, programs):
        raise BadPrograms(programs)
    threads = []
    for t, program in enumerate(programs):
        threads.append(tuple([("do", t, kind) for kind in program]) + (("keep", t),))
    return tuple(threads)


def is_interleaving(table, programs, thing):
    """Whether any value has exactly the events of some programs, each transaction's in order."""
    threads = threads_of(table, programs)
    # Only a history has integers as transactions: ("keep", True) equals ("keep", 1).
    if record_of(table[0], thing) is None or len(thing) != sum([len(thread) for thread in threads]):
        return False
    return all([tuple([event for event in thing if event[1] == t]) == thread for t, thread in enumerate(threads)])


def woven(threads):
    """All interleavings of the events that are left of each transaction, in ascending order."""
    firsts = sorted([thread[0] for thread in threads if thread])
    if not firsts:
        return [()]
    found = []
    for event in firsts:
        t = event[1]
        rest = threads[:t] + (threads[t][1:],) + threads[t + 1:]
        found.extend([(event,) + behind for behind in woven(rest)])
    return found


def is_serial(history):
    """Whether no transaction does something between the first and the last event of another one."""
    owners = [event[1] for event in history]
    changes = [t for t, u in zip(owners, owners[1:]) if t != u]
    return len(changes) + 1 == len(set(owners))


def counts(table, programs):
    """How many interleavings there are, and how many are plain, right at every cut, strict, and serial."""
    histories = woven(threads_of(table, programs))
    plain = [history for history in histories if is_plain(table, history)]
    right = [history for history in histories if is_right(table, history)]
    strict = [history for history in histories if is_strict(table, history)]
    serial = [history for history in histories if is_serial(history)]
    return len(histories), len(plain), len(right), len(strict), len(serial)


def right_not_strict(table, programs):
    """The first interleaving that is right at every cut and not strict, None if there is none."""
    for history in woven(threads_of(table, programs)):
        if is_right(table, history) and not is_strict(table, history):
            return history
    return None
