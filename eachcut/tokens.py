"""Small stores of tokens, in which a history that is not right at a cut goes wrong."""

from eachcut.checks import is_integer, is_permutation
from eachcut.conflicts import pairs_into, rivals_of
from eachcut.errors import BadStore, BadWord, IsRight
from eachcut.histories import checked_record, kept_in, serial_in
from eachcut.judge import Cut, wrong_at
from eachcut.words import are_letters

MOST_TOKENS = 30
STILL = (0, 1, 2)
# Two moves of three tokens that do not commute.
FIRST_MOVE = (1, 0, 2)
SECOND_MOVE = (0, 2, 1)


def do_commute(one, other):
    """Whether two permutations lead to the same in either order."""
    return [one[place] for place in other] == [other[place] for place in one]


def are_moves(record, many, thing):
    """Whether any value has a permutation for each event, the identity for those that are no steps."""
    if not isinstance(thing, tuple) or len(thing) != record.length:
        return False
    if not all([is_permutation(move, many) for move in thing]):
        return False
    still = tuple(range(many))
    return all([i in record.owners or move == still for i, move in enumerate(thing)])


def does_fit(rivals, moves):
    """Whether the moves of each two steps that do not conflict commute."""
    for i, others in rivals.items():
        free = [j for j in rivals if j < i and j not in others]
        if not all([do_commute(moves[i], moves[j]) for j in free]):
            return False
    return True


def is_fitting(record, rivals, thing):
    """Whether any value is a token store that fits, for the history with this record and these rivals."""
    if not isinstance(thing, tuple) or len(thing) != 2:
        return False
    many, moves = thing
    if not is_integer(many) or not 1 <= many <= MOST_TOKENS:
        return False
    return are_moves(record, many, moves) and does_fit(rivals, moves)


def is_store(table, history, thing):
    """Whether any value is a token store that fits."""
    record = checked_record(table, history)
    return is_fitting(record, rivals_of(table, history), thing)


def moved(tokens, move, sign):
    """The tokens at the places after a letter with this move and this sign."""
    found = list(tokens)
    for place, goal in enumerate(move):
        if sign == 1:
            found[goal] = tokens[place]
        else:
            found[place] = tokens[goal]
    return tuple(found)


def after_word(moves, tokens, word):
    """The tokens at the places after a word."""
    for i, sign in word:
        tokens = moved(tokens, moves[i], sign)
    return tokens


def result(table, history, store, word):
    """The result of a word: for each place the token there afterwards."""
    record = checked_record(table, history)
    if not is_fitting(record, rivals_of(table, history), store):
        raise BadStore(store)
    if not are_letters(record, word):
        raise BadWord(word)
    many, moves = store
    return after_word(moves, tuple(range(many)), word)


def one_more(record, moves, kept, done, tokens):
    """What the tokens become by one more kept transaction: pairs (done, tokens), done in ascending order."""
    found = []
    for t in kept:
        if t not in done:
            after = after_word(moves, tokens, serial_in(record, (t,)))
            found.append((tuple(sorted(done + (t,))), after))
    return found


def serial_results(record, moves, start):
    """The results of the serial words of all kept transactions, in every order, as the keys of a dict."""
    kept = kept_in(record)
    # Orders of the same transactions that lead to the same tokens go on alike: they are one pair here.
    found = {((), start): True}
    for _ in kept:
        found = {pair: True for done, tokens in found for pair in one_more(record, moves, kept, done, tokens)}
    return {tokens: True for _, tokens in found}


def does_show(table, history, p, thing):
    """Whether any value is a token store that shows that a history is wrong at a cut."""
    cut = Cut(table, history, p)
    if not is_store(table, history, thing):
        return False
    many, moves = thing
    start = tuple(range(many))
    return after_word(moves, start, cut.word) not in serial_results(cut.record, moves, start)


def pairs_of_ring(cut, ring):
    """For each two neighbours of a ring the first conflicting steps, one of the former before one of the latter."""
    found = []
    for t, u in zip(ring, ring[1:] + ring[:1]):
        pairs = pairs_into(cut.record, cut.rivals, u)
        found.append([(i, j) for i, j in pairs if cut.record.owners[i] == t][0])
    return found


def move_of(pairs, step):
    """The move of a step in a store with three tokens for each pair of conflicting steps."""
    found = []
    for i, j in pairs:
        move = STILL
        if step == i:
            move = FIRST_MOVE
        elif step == j:
            move = SECOND_MOVE
        found.extend([len(found) + place for place in move])
    return tuple(found)


def store_against(table, history, p):
    """A token store that shows that a history is wrong at a cut."""
    cut = Cut(table, history, p)
    wrong = wrong_at(cut)
    if wrong is None:
        raise IsRight(p)
    # Only the two steps of a pair move its three tokens. These moves do not commute, so what the tokens
    # show is the order of the two: a caught pair's is undone in the wrong one, a ring's have no serial one.
    pairs = [wrong[1:]] if wrong[0] == "caught" else pairs_of_ring(cut, wrong[1])
    moves = [move_of(pairs, step) for step in range(len(history))]
    return len(moves[0]), tuple(moves)
