"""What the tests share: the interface, odd values, wrong variants of values, and the examples' runner."""

import copy
import importlib
import random
import re
from functools import cache
from itertools import permutations

from eachcut import errors
from eachcut.benches import Bench
from eachcut.disks import cut, log_of, mended, sectors_of
from eachcut.engine import Engine
from eachcut.errors import BadTable, CutError
from eachcut.records import applied, new_pages, worths_on, writes_for

CELLS = (("add", "get", "set"), (("add", "get"), ("add", "set"), ("get", "set"), ("set", "set")))
ADDS = (("do", 1, "add"), ("do", 2, "add"), ("drop", 1), ("back", 1, 0), ("keep", 2))
SMALL = (("a", "b"), (("a", "b"),))
MANY = tuple(sorted([one + other for one in "abcdef" for other in "uvwxyz"]))
# All tables with the kinds a and b, except those in which the two have changed places.
TABLES = (
    (("a", "b"), ()), SMALL, (("a", "b"), (("b", "b"),)), (("a", "b"), (("a", "a"), ("b", "b"))),
    (("a", "b"), (("a", "b"), ("b", "b"))), (("a", "b"), (("a", "a"), ("a", "b"), ("b", "b"))),
)

INTERFACE = {
    "eachcut.tables": {
        "is_table": ("thing",),
        "does_conflict": ("table", "one", "other"),
        "table_text": ("table",),
        "read_table": ("text",),
        "is_coarser": ("table", "other"),
        "all_conflicts": ("table",),
        "without": ("table", "one", "other"),
    },
    "eachcut.histories": {
        "is_history": ("table", "thing"),
        "is_event": ("table", "history", "thing"),
        "state_of": ("table", "history", "t"),
        "kept_at": ("table", "history", "p"),
        "open_at": ("table", "history", "p"),
        "word_at": ("table", "history", "p"),
        "serial_word": ("table", "history", "order"),
    },
    "eachcut.words": {
        "is_word": ("table", "history", "thing"),
        "is_rewriting": ("table", "history", "word", "thing"),
        "rewritten": ("table", "history", "word", "steps"),
        "normal": ("table", "history", "word"),
        "is_same": ("table", "history", "word", "other"),
        "steps_to_normal": ("table", "history", "word"),
    },
    "eachcut.judge": {
        "judge_cut": ("table", "history", "p"),
        "cut_holds": ("table", "history", "p", "thing"),
        "is_right_at": ("table", "history", "p"),
        "judge_history": ("table", "history"),
        "history_holds": ("table", "history", "thing"),
        "is_right": ("table", "history"),
    },
    "eachcut.tokens": {
        "is_store": ("table", "history", "thing"),
        "result": ("table", "history", "store", "word"),
        "store_against": ("table", "history", "p"),
        "does_show": ("table", "history", "p", "thing"),
    },
    "eachcut.scheduler": {
        "may_happen": ("table", "history", "thing"),
        "allowed": ("table", "history"),
        "waits_for": ("table", "history"),
        "doomed": ("table", "history"),
        "judge_transaction": ("table", "history", "u"),
        "transaction_holds": ("table", "history", "u", "thing"),
        "finish": ("table", "history"),
        "is_finish": ("table", "history", "thing"),
        "next_steps": ("table", "history"),
    },
    "eachcut.others": {
        "is_strict": ("table", "history"),
        "is_plain": ("table", "history"),
        "may_strictly": ("table", "history", "thing"),
        "are_programs": ("table", "thing"),
        "is_interleaving": ("table", "programs", "thing"),
        "counts": ("table", "programs"),
        "right_not_strict": ("table", "programs"),
    },
    "eachcut.sorts": {
        "is_sort": ("thing",),
        "table_of": ("sort",),
        "judge_pair": ("sort", "one", "other"),
        "pair_holds": ("sort", "one", "other", "thing"),
        "outcome": ("sort", "history", "p", "start"),
        "serial_outcome": ("sort", "history", "p", "order", "start"),
        "witness": ("sort", "one", "other"),
        "is_witness": ("sort", "one", "other", "thing"),
    },
    "eachcut.levels": {
        "is_run": ("low", "high", "thing"),
        "low_history": ("low", "high", "run"),
        "high_history": ("low", "high", "run"),
        "carriers": ("low", "high", "run"),
        "judge_run": ("low", "high", "run"),
        "run_holds": ("low", "high", "run", "thing"),
        "is_two_level_store": ("low", "high", "run", "thing"),
        "result_after": ("low", "high", "run", "p", "store"),
    },
    "eachcut.disks": {
        "is_operation": ("thing",),
        "is_content": ("thing",),
        "is_row": ("thing",),
        "row_text": ("row",),
        "sectors_of": ("row",),
        "read_row": ("text",),
        "is_device": ("thing",),
        "log_of": ("device",),
        "length_of": ("device",),
        "written": ("device", "row"),
        "forced": ("device",),
        "cut": ("device", "lost"),
        "mended": ("device",),
    },
    "eachcut.records": {
        "are_pages": ("thing",),
        "are_chained": ("pages",),
        "place_of": ("pages", "key"),
        "worth_of": ("pages", "key"),
        "worths_on": ("pages",),
        "writes_for": ("pages", "key", "worth", "reserved"),
        "applied": ("pages", "number", "row"),
        "new_pages": (),
    },
    "eachcut.views": {
        "upper_history": ("engine",),
        "upper_table": ("engine",),
        "lower_history": ("engine",),
        "lower_table": ("engine",),
        "two_level_run": ("engine",),
        "kept_worths": ("engine",),
    },
    "eachcut.benches": {
        "run_engine": ("run",),
        "possible": ("run",),
        "read_run": ("text",),
        "worths_in_the_end": ("run",),
        "does_run_show": ("run", "key", "worth"),
        "is_tight": ("run", "key", "worth"),
        "shortened": ("run", "key", "worth"),
    },
}
CLASSES = {
    Engine: {
        "device": (), "disk": (), "log": (), "is_up": (), "pages": (), "worths": (), "opened": (), "active": (),
        "copied": (), "start": ("t",), "drop": ("t",), "back": ("t",), "end": ("t", "end"), "ask": ("t", "operation"),
        "write": ("op",), "finish": ("op",), "force": (), "flush": ("n",), "fall": ("lost",), "come_up": (),
        "come_up_amid": ("k", "lost"),
    },
    Bench: {
        "do": ("step",), "undo": (), "redo": (), "run": (), "engine": (), "text": (), "copied": (),
    },
}

NO_WORDS = (
    "", "A", "Set", "seT", "set\n", "\nset", " set", "set ", "a b", "a1", "a_b", "a-b", "{", "`", "\u00e9",
    "abcdefghijk",
)
OTHERS = (
    True, False, None, -1, 3, 7, 10 ** 39, [], {}, (), [1], {"set": 1}, ("set",), ["set"], [["do", 1, "set"]],
    ((), ()), "zz", "do", "keep", "back", BadTable(1), CutError(), Engine(), Bench(),
)
ODD = NO_WORDS + OTHERS


def is_table_by_words(thing):
    """The definition once more, in other words than the program's."""
    if type(thing) is not tuple or [type(part) for part in thing] != [tuple, tuple]:
        return False
    kinds, conflicts = thing
    if not all(type(kind) is str and re.fullmatch("[a-z]{1,10}", kind) for kind in kinds):
        return False
    if not all(type(pair) is tuple and [type(kind) for kind in pair] == [str, str] for pair in conflicts):
        return False
    pairs = {(one, other) for one in kinds for other in kinds if one <= other}
    sorted_once = sorted(set(kinds)) == list(kinds) and sorted(set(conflicts)) == list(conflicts)
    return sorted_once and set(conflicts) <= pairs


def is_possible_by_words(kinds, before, event):
    """The definition once more, by looking through all preceding events."""
    if type(event) is not tuple or len(event) < 2 or type(event[0]) is not str:
        return False
    word, t = event[:2]
    if type(t) is not int or t < 0:
        return False
    ended = ("keep", t) in before or ("drop", t) in before
    steps = [i for i, other in enumerate(before) if other[:2] == ("do", t)]
    if len(event) == 2:
        return word in ("keep", "drop") and steps != [] and not ended
    if len(event) == 3 and word == "do":
        return type(event[2]) is str and event[2] in kinds and not ended
    if len(event) == 3 and word == "back" and type(event[2]) is int:
        return ("drop", t) in before and event[2] in steps and event not in before
    return False


def is_history_by_words(kinds, thing):
    if type(thing) is not tuple:
        return False
    return all(is_possible_by_words(kinds, thing[:at], event) for at, event in enumerate(thing))


def state_by_words(history, t):
    steps = [i for i, event in enumerate(history) if event[:2] == ("do", t)]
    if not steps:
        return "new"
    if ("keep", t) in history:
        return "kept"
    if ("drop", t) not in history:
        return "active"
    return "gone" if all(("back", t, i) in history for i in steps) else "dropping"


def open_by_words(cut):
    steps = [(i, event[1]) for i, event in enumerate(cut) if event[0] == "do"]
    return tuple([i for i, t in reversed(steps) if ("keep", t) not in cut and ("back", t, i) not in cut])


def word_by_words(cut):
    letters = [(i, 1) if event[0] == "do" else (event[2], -1) for i, event in enumerate(cut) if len(event) == 3]
    return tuple(letters) + tuple([(i, -1) for i in open_by_words(cut)])


def candidates(many):
    """Events, possible or not, for two transactions and two kinds."""
    found = [("do", t, kind) for t in (0, 1) for kind in ("a", "b")]
    found += [(word, t) for word in ("keep", "drop") for t in (0, 1)]
    return found + [("back", t, i) for t in (0, 1) for i in range(many)]


def all_histories(most):
    found = [()]
    for history in found:
        if len(history) < most:
            for event in candidates(len(history)):
                if is_possible_by_words(SMALL[0], history, event):
                    found.append(history + (event,))
    return found


def long_history(seed, most=200, transactions=80, kinds=MANY):
    """A history with many events, drawn from the possible ones."""
    chance = random.Random(seed)
    history = [("do", t, chance.choice(kinds)) for t in range(transactions)]
    chance.shuffle(history)
    while len(history) < most:
        t = chance.randrange(transactions)
        steps = [i for i, event in enumerate(history) if event[:2] == ("do", t)]
        event = chance.choice((
            ("do", t, chance.choice(kinds)), ("keep", t), ("drop", t), ("back", t, chance.choice(steps)),
            ("back", t, chance.choice(steps)),
        ))
        if is_possible_by_words(kinds, tuple(history), event):
            history.append(event)
    return tuple(history)


def conflict_by_words(table, history, i, j):
    """Whether two steps, not the same one, conflict."""
    (_, t, one), (_, u, other) = history[i], history[j]
    return t == u or tuple(sorted((one, other))) in table[1]


def steps_within(history):
    return [i for i, event in enumerate(history) if event[0] == "do"]


def is_word_by_words(history, thing):
    if type(thing) is not tuple or any(type(letter) is not tuple for letter in thing):
        return False
    if any([type(part) for part in letter] != [int, int] for letter in thing):
        return False
    return all(letter in [(i, sign) for i in steps_within(history) for sign in (1, -1)] for letter in thing)


def once_rewritten(table, history, word, thing):
    """The word after a rewriting, None for any value that is none."""
    if type(thing) is not tuple or [type(part) for part in thing] != [str, int]:
        return None
    name, k = thing
    if not 0 <= k <= len(word) - 2:
        return None
    (i, sign), (j, other) = word[k:k + 2]
    if name == "swap" and i != j and not conflict_by_words(table, history, i, j):
        return word[:k] + ((j, other), (i, sign)) + word[k + 2:]
    if name == "strike" and i == j and sign + other == 0:
        return word[:k] + word[k + 2:]
    return None


def often_rewritten(table, history, word, thing):
    """The word after rewritings, None for any value that is no tuple of such."""
    if type(thing) is not tuple:
        return None
    for step in thing:
        word = once_rewritten(table, history, word, step)
        if word is None:
            return None
    return word


def all_reached(table, history, word):
    """All words to which rewritings lead."""
    found, queue = {word}, [word]
    for reached in queue:
        for step in [(name, k) for name in ("swap", "strike") for k in range(len(reached))]:
            after = once_rewritten(table, history, reached, step)
            if after is not None and after not in found:
                found.add(after)
                queue.append(after)
    return found


def normal_by_search(table, history, word):
    """The smallest one of the shortest words to which rewritings lead."""
    return min(all_reached(table, history, word), key=lambda reached: (len(reached), reached))


def struck(table, history, word):
    """A reduced word that is the same: inverse letters go wherever nothing between them is in their way."""
    for low, (i, sign) in enumerate(word):
        for high in range(low + 1, len(word)):
            j, other = word[high]
            if i == j and sign != other:
                return struck(table, history, word[:low] + word[low + 1:high] + word[high + 1:])
            if i == j or conflict_by_words(table, history, i, j):
                break
    return word


def shadows(table, history, word):
    """What swaps leave as it is: for each two positions that cannot be exchanged, the letters with them."""
    steps = sorted({i for i, _ in word})
    pairs = [(i, j) for i in steps for j in steps if i == j or i < j and conflict_by_words(table, history, i, j)]
    return [(pair, [letter for letter in word if letter[0] in pair]) for pair in pairs]


def is_same_by_words(table, history, word, other):
    one, two = struck(table, history, word), struck(table, history, other)
    return shadows(table, history, one) == shadows(table, history, two)


def kept_by_words(cut):
    return tuple([event[1] for event in cut if event[0] == "keep"])


def serial_by_words(history, order):
    return tuple([(i, 1) for t in order for i in steps_within(history) if history[i][1] == t])


def is_right_at_by_words(table, history, p):
    """By the definition: whether the word is the same as the serial word in some order."""
    cut = history[:p]
    orders = permutations(kept_by_words(cut))
    return any(is_same_by_words(table, cut, word_by_words(cut), serial_by_words(cut, order)) for order in orders)


def first_wrong_by_words(table, history):
    """The smallest cut at which one of the conditions (a) and (b) is broken, None without one."""
    place = {event: at for at, event in enumerate(history) if event[0] != "do"}
    wrong, never = [], len(history) + 1
    steps = steps_within(history)
    for i, j in [(i, j) for i in steps for j in steps if i < j and conflict_by_words(table, history, i, j)]:
        t, u = history[i][1], history[j][1]
        back, later = place.get(("back", t, i), never), place.get(("back", u, j), never)
        if back < j:
            continue
        if t != u and ("keep", u) in place and place[("keep", u)] < place.get(("keep", t), never):
            wrong.append(place[("keep", u)] + 1)
        if back < min(later, never):
            wrong.append(back + 1)
    return min(wrong) if wrong else None


def is_caught_by_words(table, cut, i, j):
    """Whether two integers are steps of a certificate "caught"."""
    steps = steps_within(cut)
    if i not in steps or j not in steps or i >= j or not conflict_by_words(table, cut, i, j):
        return False
    word = word_by_words(cut)
    if (i, -1) not in word or word.index((i, -1)) < word.index((j, 1)):
        return False
    return (j, -1) not in word[word.index((j, 1)):word.index((i, -1))]


def is_edge_by_words(table, cut, t, u):
    """Whether a step of t conflicts with a later one of u."""
    steps = steps_within(cut)
    pairs = [(i, j) for i in steps for j in steps if i < j and (cut[i][1], cut[j][1]) == (t, u)]
    return any(conflict_by_words(table, cut, i, j) for i, j in pairs)


def are_integers(thing):
    return type(thing) is tuple and all(type(part) is int for part in thing)


def certifies_by_words(table, history, p, thing):
    """Whether any value is a certificate for a cut."""
    cut = history[:p]
    kept = kept_by_words(cut)
    if type(thing) is not tuple or thing == () or type(thing[0]) is not str:
        return False
    if thing[0] == "steps" and len(thing) == 3:
        if not are_integers(thing[1]) or sorted(thing[1]) != sorted(kept):
            return False
        return often_rewritten(table, cut, word_by_words(cut), thing[2]) == serial_by_words(cut, thing[1])
    if thing[0] == "caught" and len(thing) == 3:
        return are_integers(thing[1:]) and is_caught_by_words(table, cut, *thing[1:])
    if thing[0] != "ring" or len(thing) != 2 or not are_integers(thing[1]) or len(thing[1]) < 2:
        return False
    ring = thing[1]
    if len(set(ring)) < len(ring) or not set(ring) <= set(kept):
        return False
    return all(is_edge_by_words(table, cut, ring[at - 1], ring[at]) for at in range(len(ring)))


def history_certifies_by_words(table, history, thing):
    """Whether any value is a certificate for a history."""
    wrong = first_wrong_by_words(table, history)
    if type(thing) is not tuple or thing == () or type(thing[0]) is not str:
        return False
    if thing[0] == "right":
        return len(thing) == 1 and wrong is None
    if thing[0] != "wrong" or len(thing) != 3 or type(thing[1]) is not int or thing[1] != wrong:
        return False
    return certifies_by_words(table, history, wrong, thing[2]) and thing[2][0] == "caught"


def is_permutation_by_words(thing, many):
    return are_integers(thing) and len(thing) == many and set(thing) == set(range(many))


def is_store_by_words(table, history, thing):
    if type(thing) is not tuple or [type(part) for part in thing] != [int, tuple]:
        return False
    many, moves = thing
    if many not in range(1, 31) or len(moves) != len(history):
        return False
    if not all(is_permutation_by_words(move, many) for move in moves):
        return False
    steps = steps_within(history)
    if any(moves[at] != tuple(range(many)) for at in range(len(history)) if at not in steps):
        return False
    free = [(i, j) for i in steps for j in steps if i != j and not conflict_by_words(table, history, i, j)]
    return all(moves[i][moves[j][k]] == moves[j][moves[i][k]] for i, j in free for k in range(many))


def result_by_words(store, word):
    """The result, found by following each token."""
    many, moves = store
    places = list(range(many))
    for i, sign in word:
        places = [moves[i][place] if sign == 1 else moves[i].index(place) for place in places]
    return tuple([places.index(place) for place in range(many)])


def shows_by_words(table, history, p, thing):
    if not is_store_by_words(table, history, thing):
        return False
    cut = history[:p]
    serial = [result_by_words(thing, serial_by_words(cut, order)) for order in permutations(kept_by_words(cut))]
    return result_by_words(thing, word_by_words(cut)) not in serial


def in_states(history, *states):
    transactions = sorted({event[1] for event in history})
    return [t for t in transactions if state_by_words(history, t) in states]


def is_allowed_by_words(table, history, event):
    """Whether any value is possible after a right history, and the longer one is right at every cut."""
    if not is_possible_by_words(table[0], history, event):
        return False
    return first_wrong_by_words(table, history + (event,)) is None


def allowed_by_words(table, history):
    """All allowed events that end or take back something."""
    transactions = sorted({event[1] for event in history})
    events = [(word, t) for word in ("drop", "keep") for t in transactions]
    events += [("back", t, i) for t in transactions for i in steps_within(history)]
    return tuple(sorted([event for event in events if is_allowed_by_words(table, history, event)]))


def waits_by_words(table, history):
    """The ascending tuple of the pairs (u, t), u waiting for t."""
    found = set()
    steps = [i for i in steps_within(history) if ("back", history[i][1], i) not in history]
    for i, j in [(i, j) for i in steps for j in steps if i < j and conflict_by_words(table, history, i, j)]:
        t, u = history[i][1], history[j][1]
        if t != u and ("keep", t) not in history:
            found.add((u, t))
    return tuple(sorted(found))


def doomed_by_words(table, history):
    """Those from which one comes to a dropping transaction, or, by at least one step, to one from itself."""
    waits = set(waits_by_words(table, history))
    reached = set(waits)
    for _ in range(len(history)):
        reached |= {(u, t) for u, between in reached for other, t in waits if between == other}
    bad = {t for t in in_states(history, "dropping")} | {u for u, t in reached if u == t}
    active = in_states(history, "active")
    return tuple([u for u in active if u in bad or any((u, t) in reached for t in bad)])


def transaction_certifies_by_words(table, history, u, thing):
    """Whether any value is a certificate for an active transaction."""
    waits = waits_by_words(table, history)
    if type(thing) is not tuple or len(thing) != 2 or not are_integers(thing[1]) or thing[1] == ():
        return False
    name, items = thing
    if name == "doomed":
        if items[0] != u or any(pair not in waits for pair in zip(items, items[1:])):
            return False
        return state_by_words(history, items[-1]) == "dropping" or items[-1] in items[:-1]
    if name != "free" or items[-1] != u or len(set(items)) < len(items):
        return False
    if any(state_by_words(history, t) != "active" for t in items):
        return False
    return all(t in items[:at] for at, one in enumerate(items) for other, t in waits if other == one)


def is_finish_by_words(table, history, thing):
    """Whether any value is a finish in which exactly the active transactions that are not doomed are kept."""
    if type(thing) is not tuple:
        return False
    after = history
    for event in thing:
        if not is_allowed_by_words(table, after, event) or event[0] == "do":
            return False
        after += (event,)
    if in_states(after, "active", "dropping"):
        return False
    free = set(in_states(history, "active")) - set(doomed_by_words(table, history))
    return {event[1] for event in thing if event[0] == "keep"} == free


def drawn_table(chance):
    kinds = ("a", "b", "c", "d")[:chance.randint(1, 4)]
    return kinds, tuple([(one, other) for one in kinds for other in kinds if one <= other and chance.random() < 0.35])


def drawn_history(chance, table, most, transactions, right):
    """A history of drawn events; right at every cut if that is asked for, otherwise perhaps."""
    history = ()
    for _ in range(5 * most):
        t = chance.randrange(transactions)
        own = [i for i in steps_within(history) if history[i][1] == t] or [0]
        do = ("do", t, chance.choice(table[0]))
        event = chance.choice((do, do, ("keep", t), ("drop", t), ("back", t, own[-1]), ("back", t, chance.choice(own))))
        longer = history + (event,)
        if len(history) < most and is_possible_by_words(table[0], history, event):
            if not right or first_wrong_by_words(table, longer) is None:
                history = longer
    return history


def drawn_cases(many, sizes=(8, 12, 20, 40)):
    """Pairs of tables and histories, every second history right at every cut."""
    for seed in range(many):
        chance = random.Random(seed)
        table = drawn_table(chance)
        yield table, drawn_history(chance, table, chance.choice(sizes), chance.randint(2, 8), seed % 2 == 0)


def is_natural_by_words(thing):
    return type(thing) is int and thing >= 0


def is_key_by_words(thing):
    return type(thing) is str and re.fullmatch("[a-z]{1,9}", thing) is not None


def is_request_by_words(thing):
    """Whether any value can be asked of an engine."""
    if type(thing) is not tuple or [type(part) for part in thing[:2]] != [str, str] or not is_key_by_words(thing[1]):
        return False
    return [type(part) for part in thing[2:]] == [int] * {"read": 0, "set": 1, "add": 1}.get(thing[0], 99)


def exclude_by_words(one, other):
    """Whether two operations have the same key and are neither both "read" nor both "add"."""
    both = {one[0], other[0]}
    return one[1] == other[1] and both not in ({"read"}, {"add"})


@cache
def pages_by_words(rows, start=new_pages()):
    """The pages to which all rows of a log lead."""
    if not rows:
        return start
    return applied(pages_by_words(rows[:-1], start), len(rows), rows[-1])


@cache
def rows_by_words(sectors):
    return log_of((sectors, 0))


@cache
def undone_by_words(rows):
    """The rows that a restart writes: for each unfinished op its "page" rows but the last ones, already taken back."""
    finished = {row[2] for row in rows if row[0] in ("op", "comp")}
    found = []
    for op in {row[1] for row in rows if row[0] == "page"} - finished:
        places = [at for at, row in enumerate(rows) if row[:2] == ("page", op)]
        backs = len([row for row in rows if row[:2] == ("unpage", op)])
        found += places[:len(places) - backs]
    return tuple([("unpage",) + rows[at][1:4] for at in sorted(found, reverse=True)])


@cache
def open_transactions_by_words(rows):
    """The triples (t, done, the last one of done) of the transactions that have not ended."""
    ended = {row[1] for row in rows if row[0] == "end"}
    undone = {row[3] for row in rows if row[0] == "comp"}
    found = {}
    for t in sorted({row[1] for row in rows if row[0] == "start"} - ended):
        ops = [row for row in rows if row[0] == "op" and row[1] == t and row[2] not in undone]
        found[t] = tuple([(row[2], row[3]) for row in ops])
    return found


class Wrong(Exception):
    """The name of an error, and what it names."""


class EngineByWords:
    """An engine once more: what can be read off its log, is read off its log each time."""

    def __init__(self):
        self.device, self.disk, self.up = ((), 0), {}, True
        self.dropping, self.active = set(), {}

    def rows(self):
        return rows_by_words(self.device[0])

    def pages(self):
        return pages_by_words(self.rows())

    def worth(self, key):
        return dict(worths_on(self.pages())).get(key, 0)

    def opened(self):
        found = open_transactions_by_words(self.rows())
        return tuple([(t, "dropping" if t in self.dropping else "active", found[t]) for t in sorted(found)])

    def actives(self):
        return tuple([(op,) + tuple(self.active[op]) for op in sorted(self.active)])

    def seen(self):
        """Everything that an engine tells."""
        told = (self.device, tuple(sorted(self.disk.items())), self.rows(), self.up)
        if self.up:
            told += (self.pages(), worths_on(self.pages()), self.opened(), self.actives())
        return told

    def append(self, row):
        self.device = (self.device[0] + sectors_of(row), self.device[1])

    def need(self, good, error, thing):
        if not good:
            raise Wrong(error, thing)

    def need_idle(self, t, state):
        """A transaction that has no active op, and, if that is asked for, a state."""
        self.need(type(t) is int, "BadTransaction", t)
        found = {other: (now, done) for other, now, done in self.opened()}
        self.need(t in found and t not in [told[0] for told in self.active.values()], "BadTransaction", t)
        self.need(state in (None, found[t][0]), "BadTransaction", t)
        return found[t]

    def need_op(self, op, left):
        self.need(type(op) is int and op in self.active, "BadOp", op)
        self.need(bool(self.active[op][4]) is left, "BadOp", op)
        return self.active[op]

    def take(self, step):
        """The answer to a step, or the name of its error and what it names."""
        word, *rest = step
        before = copy.deepcopy(self)
        try:
            if word in ("up", "amid"):
                self.need(not self.up, "Up", None)
            else:
                self.need(self.up, "Down", None)
            return getattr(self, "take_" + word)(*rest)
        except Wrong as wrong:
            vars(self).update(vars(before))
            return wrong.args

    def take_start(self, t):
        used = [row[1] for row in self.rows() if row[0] in ("start", "op", "comp", "end")]
        self.need(is_natural_by_words(t) and t not in used, "BadTransaction", t)
        self.append(("start", t))

    def take_drop(self, t):
        self.need_idle(t, "active")
        self.dropping.add(t)

    def take_end(self, t, end):
        state, done = self.need_idle(t, None)
        self.need(type(end) is str and end in ("kept", "dropped"), "BadEnd", end)
        self.need((end == "kept") == (state == "active") and not (end == "dropped" and done), "BadEnd", end)
        self.append(("end", t, end))
        self.dropping.discard(t)
        if end == "kept":
            self.take_force()

    def take_ask(self, t, operation):
        self.need_idle(t, "active")
        self.need(is_request_by_words(operation), "BadOperation", operation)
        locks = [(u, held) for u, _, done in self.opened() for _, held in done]
        locks += [(told[0], told[1]) for told in self.active.values() if told[1] is not None]
        waits = {u for u, held in locks if u != t and exclude_by_words(operation, held)}
        if waits:
            return "waits", tuple(sorted(waits))
        word, key, *worths = operation
        now = self.worth(key)
        if word == "read":
            return self.begin(t, operation, None, key, now)
        if word == "set":
            return self.begin(t, ("set", key, worths[0], now), None, key, worths[0])
        return self.begin(t, operation, None, key, now + worths[0])

    def take_back(self, t):
        _, done = self.need_idle(t, "dropping")
        self.need(done, "BadTransaction", t)
        op, operation = done[-1]
        key, now = operation[1], self.worth(operation[1])
        goal = {"read": now, "set": operation[-1], "add": now - operation[-1] if operation[0] == "add" else 0}
        return self.begin(t, None, op, key, goal[operation[0]])

    def begin(self, t, operation, back, key, goal):
        reserved = {n for told in self.active.values() for n, _ in told[4]}
        writes = writes_for(self.pages(), key, goal, tuple(sorted(reserved)))
        numbers = tuple([n for n, _ in writes])
        latched = [op for op, told in self.active.items() if set(told[3]) & set(numbers)]
        if latched:
            return "latched", tuple(sorted(latched))
        used = [row[1] for row in self.rows() if row[0] in ("page", "unpage")]
        used += [row[2] for row in self.rows() if row[0] in ("op", "comp")] + list(self.active)
        op = max(used) + 1 if used else 0
        self.active[op] = [t, operation, back, numbers, writes]
        return "begun", op

    def take_write(self, op):
        told = self.need_op(op, True)
        n, content = told[4][0]
        before = self.pages()[n][1] if n < len(self.pages()) else None
        told[4] = told[4][1:]
        self.append(("page", op, n, before, content))

    def take_finish(self, op):
        t, operation, back, _, _ = self.need_op(op, False)
        del self.active[op]
        if operation is None:
            self.append(("comp", t, op, back))
            return ("done",)
        self.append(("op", t, op, operation))
        return ("worth", self.worth(operation[1])) if operation[0] == "read" else ("done",)

    def take_force(self):
        self.device = (self.device[0], len(self.device[0]))

    def take_flush(self, n):
        self.need(is_natural_by_words(n) and n < len(self.pages()), "BadNumber", n)
        self.take_force()
        self.disk[n] = self.pages()[n]

    def go_down(self, device, lost):
        good = are_integers(lost) and sorted(set(lost)) == list(lost)
        self.need(good and all(at in range(device[1], len(device[0])) for at in lost), "BadLost", lost)
        self.device = cut(device, lost)
        self.up, self.dropping, self.active = False, set(), {}

    def take_fall(self, lost):
        self.go_down(self.device, lost)

    def take_up(self):
        undone = undone_by_words(self.rows())
        self.device, self.up = mended(self.device), True
        for row in undone:
            self.append(row)
        self.dropping = set(open_transactions_by_words(self.rows()))

    def take_amid(self, k, lost):
        undone = undone_by_words(self.rows())
        self.need(is_natural_by_words(k) and k <= len(undone), "BadNumber", k)
        sectors, safe = mended(self.device)
        for row in undone[:k]:
            sectors += sectors_of(row)
        self.go_down((sectors, safe), lost)


def kept_worths_by_words(rows, in_order_of_ends):
    """The worths after the operations of the kept transactions, in the order of their "op" or of their "end" rows."""
    kept = [row[1] for row in rows if row[0] == "end" and row[2] == "kept"]
    ops = [(row[1], row[3]) for row in rows if row[0] == "op" and row[1] in kept]
    if in_order_of_ends:
        ops = [(t, operation) for end in kept for t, operation in ops if t == end]
    worths = {}
    for _, (word, key, *rest) in ops:
        old = worths.get(key, 0)
        worths[key] = {"read": old, "set": rest[:1] and rest[0], "add": old + sum(rest[:1])}[word]
    return tuple(sorted([(key, worth) for key, worth in worths.items() if worth != 0]))


def settle(engine):
    """Takes back what is open with an engine that is up and has only dropping transactions without active ops."""
    done = [(op, t) for t, _, pairs in engine.opened() for op, _ in pairs]
    place = {row[2]: at for at, row in enumerate(engine.log()) if row[0] == "op"}
    for _, t in sorted(done, key=lambda pair: -place[pair[0]]):
        kind, op = engine.back(t)
        assert kind == "begun"
        while engine.active()[0][5]:
            engine.write(op)
        engine.finish(op)
    for t, _, _ in engine.opened():
        engine.end(t, "dropped")


def seen_of(engine):
    """Everything that an engine tells."""
    told = (engine.device(), engine.disk(), engine.log(), engine.is_up())
    return told + (engine.pages(), engine.worths(), engine.opened(), engine.active()) if engine.is_up() else told


def step_of(engine, step):
    """The answer of an engine's method to a step, or the name of its error and what it names."""
    names = {"up": "come_up", "amid": "come_up_amid"}
    try:
        return getattr(engine, names.get(step[0], step[0]))(*step[1:])
    except CutError as error:
        return error.__class__.__name__, (list(vars(error).values()) + [None])[0]


def drawn_operation(chance, keys):
    key = chance.choice(keys)
    worth = chance.choice((0, 1, 2, 5, -3, 7))
    return chance.choice((("read", key), ("set", key, worth), ("add", key, worth), ("add", key, worth)))


def drawn_lost(chance, device):
    """Some sectors that are not safe: mostly none, all, or each one perhaps."""
    loose = range(device[1], len(device[0]))
    share = chance.choice((0, 0, 1, 0.5, 0.1))
    return tuple([at for at in loose if chance.random() < share])


def drawn_step(chance, model, keys, transactions, pace):
    """A step that may be possible for an engine, whose model this is; at a low pace few ops finish."""
    if not model.up:
        undone = undone_by_words(model.rows())
        k = chance.randint(0, len(undone))
        sectors, safe = mended(model.device)
        for row in undone[:k]:
            sectors += sectors_of(row)
        return chance.choice((("up",), ("amid", k, drawn_lost(chance, (sectors, safe)))))
    t = chance.choice([t for t, _, _ in model.opened()] + [chance.randrange(transactions)])
    op = chance.choice(list(model.active) or [0])
    words = ["start"] * 3 + ["ask"] * 16 + ["write"] * 10 + ["finish"] * pace + ["drop", "back", "back", "end"] * 2
    word = chance.choice(words + chance.choice((["force"], ["flush"], ["fall"], [], [], [])))
    rest = {
        "start": (t,), "ask": (t, drawn_operation(chance, keys)), "write": (op,), "finish": (op,), "drop": (t,),
        "back": (t,), "end": (t, chance.choice(("kept", "kept", "dropped"))), "force": (), "fall": (),
        "flush": (chance.randrange(len(model.pages())),),
    }[word]
    return ("fall", drawn_lost(chance, model.device)) if word == "fall" else (word,) + rest


def drawn_life(seed, most=80, keys="abcdefghijkl", transactions=30):
    """A run of drawn steps, at most five transactions open at once, in the limits of the engine."""
    chance = random.Random(seed)
    keys, pace = keys[:chance.choice((1, 3, 6, 12))], chance.choice((2, 5, 10))
    model, run = EngineByWords(), []
    for k in range(20 * most):
        step = drawn_step(chance, model, keys, transactions, pace)
        if step[0] == "start" and len(model.opened()) >= 5 or len(run) >= most:
            continue
        answer = model.take(step)
        # Some of those that nothing comes of, but are possible, stay in the run.
        good = ("begun", "done", "worth") + (("waits", "latched") if k % 5 == 0 else ())
        if answer is None or answer[0] in good:
            run.append(step)
    return tuple(run)


@cache
def drawn_lives(many, most=80):
    return [drawn_life(seed, most) for seed in range(many)]


def variants(value):
    """All values that differ from a value in one place, at any depth."""
    found = list(ODD)
    if isinstance(value, bool) or value is None:
        return found
    if isinstance(value, int):
        return found + [value - 1, value + 1, bool(value), str(value)]
    if isinstance(value, str):
        return found + [value + "a", value[:-1], value + "\n", value.upper(), (value,), [value]]
    if not isinstance(value, tuple):
        return found
    found.append(list(value))
    for at, part in enumerate(value):
        found.append(value[:at] + value[at + 1:])
        found.append(value[:at] + (part, part) + value[at + 1:])
        found.append(value[:at] + value[at + 1:at + 2] + (part,) + value[at + 2:])
        found.extend([value[:at] + (other,) + value[at + 1:] for other in variants(part)])
    return found + [value + (other,) for other in ODD] + [(value,), [value]]


def both_ways(name, *args):
    """The result of a function of the interface, called by position and by name."""
    for module, functions in INTERFACE.items():
        if name in functions:
            function = getattr(importlib.import_module(module), name)
            result = function(*args)
            again = function(**dict(zip(functions[name], args)))
            assert repr(result) == repr(again), (name, args, result, again)
            return result
    raise KeyError(name)


def error_of(call, *args):
    """The class name and the attributes of the error that a call raises; it is caught as CutError."""
    try:
        result = call(*args)
    except CutError as error:
        return error.__class__.__name__, vars(error)
    raise AssertionError(f"{call} with {args} raised nothing and returned {result!r}")


def raises(case, expected, value, name, *args):
    """Tests that a function raises an error with exactly this value, by position and by name."""
    functions = [functions for functions in INTERFACE.values() if name in functions]
    module = [module for module, functions in INTERFACE.items() if name in functions][0]
    function = getattr(importlib.import_module(module), name)
    for call in (lambda: function(*args), lambda: function(**dict(zip(functions[0][name], args)))):
        before = repr(args)
        kind, attributes = error_of(call)
        case.assertEqual(before, repr(args))
        if value is None and not attributes:
            case.assertEqual(expected, kind, (name, args))
            continue
        case.assertEqual((expected, 1), (kind, len(attributes)), (name, args))
        found = list(attributes.values())[0]
        if isinstance(value, (int, tuple, str)):
            case.assertEqual((value, value.__class__), (found, found.__class__), (name, args))
        else:
            case.assertIs(value, found, (name, args))


def rejects_others(case, name, *rest):
    """Tests that a function raises BadTable and BadHistory for all values of other kinds."""
    for thing in ODD + ((("b", "a"), ()),):
        if not is_table_by_words(thing):
            raises(case, "BadTable", thing, name, thing, (), *rest)
        if not is_history_by_words(CELLS[0], thing):
            raises(case, "BadHistory", thing, name, CELLS, thing, *rest)
    raises(case, "BadHistory", ADDS, name, SMALL, ADDS, *rest)


def rejects(case, name, args, checks):
    """Tests that for each argument other values than good ones raise its error, even if all later ones are wrong too.

    checks has for each argument the name of its error and what tells whether any value is good; None where
    every value is.
    """
    for at, check in enumerate(checks):
        if check is None:
            continue
        error, is_good = check
        later = [arg if other is None else CutError for arg, other in zip(args[at + 1:], checks[at + 1:])]
        for thing in variants(args[at]):
            if not is_good(thing):
                raises(case, error, thing, name, *args[:at], thing, *args[at + 1:])
                raises(case, error, thing, name, *args[:at], thing, *later)


def run_examples(case, text):
    """Runs examples as they stand in the document."""
    names = {}
    lines = text.strip().split("\n")
    for at, line in enumerate(lines):
        if not line.startswith(">>> "):
            continue
        following = lines[at + 1] if at + 1 < len(lines) else ">>> "
        if following.startswith(">>> "):
            exec(line[4:], names)
        elif following.startswith("raises "):
            kind, rest = following[len("raises "):].split("(", 1)
            case.assertTrue(hasattr(errors, kind))
            case.assertEqual((kind, eval("dict(" + rest)), error_of(lambda: eval(line[4:], names)))
        else:
            case.assertEqual(following, repr(eval(line[4:], names)))
