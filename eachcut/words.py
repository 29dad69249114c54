"""Words of histories, their rewritings, and their normal words."""

from eachcut.checks import is_integer, is_natural
from eachcut.conflicts import rivals_of
from eachcut.errors import BadSteps, BadWord
from eachcut.histories import checked_record


def is_letter(record, thing):
    """Whether any value is a pair of the position of a step and a sign."""
    if not isinstance(thing, tuple) or len(thing) != 2:
        return False
    i, sign = thing
    # True counts as 1 as a key, and equals 1.
    if not is_integer(i) or not is_integer(sign):
        return False
    return i in record.owners and sign in (1, -1)


def are_letters(record, thing):
    """Whether any value is a word of the history with this record."""
    return isinstance(thing, tuple) and all([is_letter(record, letter) for letter in thing])


def is_word(table, history, thing):
    """Whether any value is a word of a history."""
    return are_letters(checked_record(table, history), thing)


def check_words(table, history, words):
    """Raises BadTable, BadHistory, and BadWord with the first one that is not a word."""
    record = checked_record(table, history)
    for word in words:
        if not are_letters(record, word):
            raise BadWord(word)


def are_apart(rivals, one, other):
    """Whether two letters can be exchanged where they stand side by side."""
    return one[0] != other[0] and other[0] not in rivals[one[0]]


def are_inverse(one, other):
    """Whether two letters can be struck where they stand side by side."""
    return one[0] == other[0] and one[1] != other[1]


def does_apply(rivals, letters, thing):
    """Whether any value is a rewriting of some letters."""
    if not isinstance(thing, tuple) or len(thing) != 2:
        return False
    name, k = thing
    if not is_natural(k) or k + 1 >= len(letters):
        return False
    if name == "swap":
        return are_apart(rivals, letters[k], letters[k + 1])
    return name == "strike" and are_inverse(letters[k], letters[k + 1])


def is_rewriting(table, history, word, thing):
    """Whether any value is a rewriting of a word."""
    check_words(table, history, (word,))
    return does_apply(rivals_of(table, history), word, thing)


def after_steps(rivals, word, thing):
    """The word after some rewritings, None for any value that is not a tuple of such."""
    if not isinstance(thing, tuple):
        return None
    letters = list(word)
    for step in thing:
        if not does_apply(rivals, letters, step):
            return None
        name, k = step
        letters[k:k + 2] = [letters[k + 1], letters[k]] if name == "swap" else []
    return tuple(letters)


def rewritten(table, history, word, steps):
    """The word after some rewritings."""
    check_words(table, history, (word,))
    letters = after_steps(rivals_of(table, history), word, steps)
    if letters is None:
        raise BadSteps(steps)
    return letters


def partner_of(rivals, letters, letter):
    """The place of the letter with which one behind all letters can be struck after swaps, None without one."""
    for at in reversed(range(len(letters))):
        if are_inverse(letters[at], letter):
            return at
        if not are_apart(rivals, letters[at], letter):
            return None
    return None


def reduced(rivals, word):
    """A reduced word that is the same as a word, and the rewritings that lead to it."""
    letters, steps = [], []
    for letter in word:
        at = partner_of(rivals, letters, letter)
        if at is None:
            letters.append(letter)
        else:
            steps.extend([("swap", k) for k in reversed(range(at + 1, len(letters)))])
            steps.append(("strike", at))
            letters.pop(at)
    return letters, steps


def may_lead(rivals, letters, at):
    """Whether swaps can bring the letter at a place to the front."""
    return all([are_apart(rivals, letter, letters[at]) for letter in letters[:at]])


def first_place(rivals, letters):
    """The place of the smallest letter that swaps can bring to the front."""
    best = 0
    for at in range(1, len(letters)):
        if letters[at] < letters[best] and may_lead(rivals, letters, at):
            best = at
    return best


def normal_of(rivals, word):
    """The normal word of a word."""
    letters = reduced(rivals, word)[0]
    found = []
    # All words to which swaps lead are equally long: the smallest one has the smallest letters first.
    while letters:
        found.append(letters.pop(first_place(rivals, letters)))
    return tuple(found)


def normal(table, history, word):
    """The normal word of a word."""
    check_words(table, history, (word,))
    return normal_of(rivals_of(table, history), word)


def is_same(table, history, word, other):
    """Whether rewritings of two words lead to one word."""
    check_words(table, history, (word, other))
    rivals = rivals_of(table, history)
    return normal_of(rivals, word) == normal_of(rivals, other)


def steps_to(rivals, word, goal):
    """Rewritings that lead from a word to a reduced word that is the same."""
    letters, steps = reduced(rivals, word)
    for at, letter in enumerate(goal):
        place = letters.index(letter, at)
        steps.extend([("swap", k) for k in reversed(range(at, place))])
        letters.insert(at, letters.pop(place))
    return tuple(steps)


def steps_to_normal(table, history, word):
    """Rewritings that lead from a word to its normal word."""
    check_words(table, history, (word,))
    rivals = rivals_of(table, history)
    return steps_to(rivals, word, normal_of(rivals, word))
