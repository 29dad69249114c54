"""Object types as data, their conflict tables, and what histories of their operations come to."""

from eachcut.checks import is_ascending, is_integer, is_natural, is_permutation, is_plain_word
from eachcut.errors import BadKind, BadOrder, BadPair, BadSort, BadState
from eachcut.histories import is_order, kept_in, record_at, record_of, serial_in, word_in
from eachcut.judge import is_right
from eachcut.tables import without

MOST_STATES = 12
MOST_OPERATIONS = 8


def do_answer(size, thing):
    """Whether any value is a tuple with an integer for each state."""
    return isinstance(thing, tuple) and len(thing) == size and all([is_integer(part) for part in thing])


def does_act(size, thing):
    """Whether any value is an operation: a kind, where it leads from each state, and what it answers there."""
    if not isinstance(thing, tuple) or len(thing) != 3:
        return False
    kind, moves, answers = thing
    return is_plain_word(kind) and is_permutation(moves, size) and do_answer(size, answers)


def is_sort(thing):
    """Whether any value is a sort: a pair (size, operations)."""
    if not isinstance(thing, tuple) or len(thing) != 2:
        return False
    size, operations = thing
    if not is_integer(size) or not 1 <= size <= MOST_STATES:
        return False
    if not isinstance(operations, tuple) or not 1 <= len(operations) <= MOST_OPERATIONS:
        return False
    return all([does_act(size, part) for part in operations]) and is_ascending([part[0] for part in operations])


def acts_of(sort):
    """For each kind of a sort its moves and its answers; raises BadSort."""
    if not is_sort(sort):
        raise BadSort(sort)
    return {kind: (moves, answers) for kind, moves, answers in sort[1]}


def do_agree(act, other, state):
    """Whether two operations lead from a state to the same state, with the same answers, in either order."""
    (moves, answers), (other_moves, other_answers) = act, other
    if other_moves[moves[state]] != moves[other_moves[state]]:
        return False
    return answers[state] == answers[other_moves[state]] and other_answers[state] == other_answers[moves[state]]


def quarrels(act, other):
    """The states from which two operations do not commute."""
    return [state for state in range(len(act[0])) if not do_agree(act, other, state)]


def table_of(sort):
    """The table of a sort: its kinds, and all pairs of them that do not commute."""
    acts = acts_of(sort)
    pairs = [(one, other) for one in acts for other in acts if one <= other]
    return tuple(list(acts)), tuple([(one, other) for one, other in pairs if quarrels(acts[one], acts[other])])


def quarrels_of(sort, one, other):
    """The states from which two kinds do not commute; raises BadSort and BadKind."""
    acts = acts_of(sort)
    for kind in (one, other):
        # Not every value can be a key, but each one can be compared.
        if kind not in tuple(list(acts)):
            raise BadKind(kind)
    return quarrels(acts[one], acts[other])


def judge_pair(sort, one, other):
    """A certificate that two kinds commute, or that they do not."""
    states = quarrels_of(sort, one, other)
    return ("state", states[0]) if states else ("commute",)


def pair_holds(sort, one, other, thing):
    """Whether any value is a certificate for two kinds."""
    states = quarrels_of(sort, one, other)
    if not isinstance(thing, tuple):
        return False
    if thing == ("commute",):
        return not states
    return len(thing) == 2 and thing[0] == "state" and is_integer(thing[1]) and thing[1] in states


def after_letters(sort, history, word, start):
    """The state after a word from a state, and what its operations answered, by their positions."""
    acts = acts_of(sort)
    state, told = start, {}
    for i, sign in word:
        moves, answers = acts[history[i][2]]
        if sign == 1:
            told[i] = answers[state]
            state = moves[state]
        else:
            state = moves.index(state)
    return state, told


def outcome_of(sort, history, record, word, start):
    """The state after a word, and the answers of the steps of the transactions that are kept now."""
    state, told = after_letters(sort, history, word, start)
    kept = [i for i, t in record.owners.items() if record.ends.get(t) == "keep"]
    return state, tuple([(i, told[i]) for i in kept])


def is_state(sort, thing):
    """Whether any value is a state of a sort."""
    return is_natural(thing) and thing < sort[0]


def outcome(sort, history, p, start):
    """The outcome of a history at a cut from a state."""
    record = record_at(table_of(sort), history, p)
    if not is_state(sort, start):
        raise BadState(start)
    return outcome_of(sort, history, record, word_in(record, history[:p]), start)


def serial_outcome(sort, history, p, order, start):
    """The outcome of a serial order of the transactions that are kept within a cut, from a state."""
    record = record_at(table_of(sort), history, p)
    if not is_order(record, order) or sorted(order) != sorted(kept_in(record)):
        raise BadOrder(order)
    if not is_state(sort, start):
        raise BadState(start)
    return outcome_of(sort, history, record, serial_in(record, order), start)


def finer_table(sort, one, other):
    """The table of a sort without the conflict of two kinds; raises BadSort, BadKind and BadPair."""
    if not quarrels_of(sort, one, other):
        raise BadPair((one, other) if one <= other else (other, one))
    return without(table_of(sort), one, other)


def does_mislead(sort, history, p, start):
    """Whether the outcome of a history of two transactions at a cut from a state is that of no serial order."""
    record = record_of(table_of(sort)[0], history[:p])
    found = outcome_of(sort, history, record, word_in(record, history[:p]), start)
    kept = kept_in(record)
    # At most two are kept: these are all orders.
    for order in (kept, kept[::-1]):
        if outcome_of(sort, history, record, serial_in(record, order), start) == found:
            return False
    return True


def witness(sort, one, other):
    """A history of two transactions, a cut and a state that show why the table needs a conflict."""
    finer_table(sort, one, other)
    start = quarrels_of(sort, one, other)[0]
    # The second step sees what the first one did, and then the restart takes the first one back. If this
    # leaves no trace in the one order of the kinds, it does in the other one: else they would agree.
    found, turned = [(("do", 0, kind), ("do", 1, after), ("keep", 1)) for kind, after in ((one, other), (other, one))]
    history = found if does_mislead(sort, found, len(found), start) else turned
    return history, len(history), start


def is_witness(sort, one, other, thing):
    """Whether any value is a history, a cut and a state that show why the table needs a conflict."""
    table = finer_table(sort, one, other)
    if not isinstance(thing, tuple) or len(thing) != 3:
        return False
    history, p, start = thing
    record = record_of(table[0], history)
    if record is None or len(record.steps) != 2 or not is_right(table, history):
        return False
    if not is_natural(p) or p > len(history) or not is_state(sort, start):
        return False
    return does_mislead(sort, history, p, start)
