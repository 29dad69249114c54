"""What values look like: the conventions that all parts share."""

LETTERS = "abcdefghijklmnopqrstuvwxyz"
MOST_LETTERS = 10


def is_integer(thing):
    """Whether any value is an integer; bools are none."""
    return isinstance(thing, int) and not isinstance(thing, bool)


def is_natural(thing):
    """Whether any value is an integer of 0 or more."""
    return is_integer(thing) and thing >= 0


def is_plain_word(thing):
    """Whether any value is a string of 1 to 10 letters from a to z."""
    if not isinstance(thing, str) or not 1 <= len(thing) <= MOST_LETTERS:
        return False
    return all([letter in LETTERS for letter in thing])


def is_ascending(things):
    """Whether things that can be compared are sorted, none of them twice."""
    return all([one < other for one, other in zip(things, things[1:])])


def is_permutation(thing, size):
    """Whether any value is a tuple with each integer from 0 to size - 1 exactly once."""
    if not isinstance(thing, tuple) or not all([is_integer(part) for part in thing]):
        return False
    return sorted(thing) == list(range(size))
