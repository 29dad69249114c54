"""What values look like: the conventions that all parts share."""

LETTERS = "abcdefghijklmnopqrstuvwxyz"
DIGITS = "0123456789"
MOST_LETTERS = 10


def is_integer(thing):
    """Whether any value is an integer; bools are none."""
    return isinstance(thing, int) and not isinstance(thing, bool)


def is_natural(thing):
    """Whether any value is an integer of 0 or more."""
    return is_integer(thing) and thing >= 0


def is_plain_word(thing):
    """Whether any value is a string of 1 to 10 letters from a to z."""
    if not isinstance(thing, str) or not 1 <= len(thing) <= MOST_LETTERS:
        return False
    return all([letter in LETTERS for letter in thing])


def is_ascending(things):
    """Whether things that can be compared are sorted, none of them twice."""
    return all([one < other for one, other in zip(things, things[1:])])


def is_permutation(thing, size):
    """Whether any value is a tuple with each integer from 0 to size - 1 exactly once."""
    if not isinstance(thing, tuple) or not all([is_integer(part) for part in thing]):
        return False
    return sorted(thing) == list(range(size))


def integer_of(text):
    """The integer with a text as Python writes it, None for any other text."""
    digits = text.removeprefix("-")
    if not digits or not all([digit in DIGITS for digit in digits]):
        return None
    if digits[0] == "0" and text != "0":
        return None
    # Python itself reads and writes only some thousands of digits at once.
    first = len(digits) % 64
    found = int(digits[:first]) if first else 0
    for at in range(first, len(digits), 64):
        found = found * 10 ** 64 + int(digits[at:at + 64])
    return found if digits == text else -found


def integer_text(number):
    """The text of an integer of any size, as Python writes it."""
    rest, behind = abs(number), ""
    while rest >= 10 ** 64:
        rest, low = divmod(rest, 10 ** 64)
        behind = str(low).zfill(64) + behind
    return ("-" if number < 0 else "") + str(rest) + behind


def item_text(item):
    """The text of an item of a row or a step: a word as it is, or an integer."""
    return item if isinstance(item, str) else integer_text(item)
