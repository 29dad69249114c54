"""Log rows, their texts and sectors, and the devices that keep them."""

from eachcut.checks import LETTERS, integer_of, integer_text, is_ascending, is_integer, is_natural, item_text
from eachcut.errors import BadDevice, BadLost, BadRow, BadText

MOST_KEY_LETTERS = 9
MOST_ENTRIES = 3
SECTOR_SIZE = 16
PIECE_SIZE = 15
# The names of operations, and how many worths each one has.
OPERATIONS = (("read", 0), ("set", 2), ("add", 1))


def is_key(thing):
    """Whether any value is a string of 1 to 9 letters from a to z."""
    if not isinstance(thing, str) or not 1 <= len(thing) <= MOST_KEY_LETTERS:
        return False
    return all([letter in LETTERS for letter in thing])


def is_shaped(thing, shapes):
    """Whether any value has a name, a key and worths, with one of these names and numbers of worths."""
    if not isinstance(thing, tuple) or len(thing) < 2 or not is_key(thing[1]):
        return False
    worths = thing[2:]
    return (thing[0], len(worths)) in shapes and all([is_integer(worth) for worth in worths])


def is_operation(thing):
    """Whether any value is an operation."""
    return is_shaped(thing, OPERATIONS)


def is_entry(thing):
    """Whether any value is a pair of a key and a worth that is not 0."""
    return isinstance(thing, tuple) and len(thing) == 2 and is_key(thing[0]) and is_integer(thing[1]) and thing[1] != 0


def are_entries(low, thing):
    """Whether any value is an ascending tuple of at most three entries, none below low."""
    if not isinstance(thing, tuple) or len(thing) > MOST_ENTRIES or not all([is_entry(entry) for entry in thing]):
        return False
    keys = [key for key, _ in thing]
    return is_ascending(keys) and all([low <= key for key in keys])


def is_content(thing):
    """Whether any value is the content of a page."""
    if thing is None:
        return True
    if not isinstance(thing, tuple) or len(thing) != 3:
        return False
    low, entries, follower = thing
    if low != "" and not is_key(low):
        return False
    return are_entries(low, entries) and (follower is None or is_natural(follower))


def is_row(thing):
    """Whether any value is a log row."""
    if not isinstance(thing, tuple) or not 2 <= len(thing) <= 5 or not is_natural(thing[1]):
        return False
    word, rest = thing[0], thing[2:]
    if word == "start":
        return rest == ()
    if word == "end":
        return rest in (("kept",), ("dropped",))
    if len(rest) < 2 or not is_natural(rest[0]):
        return False
    if word == "op":
        return len(rest) == 2 and is_operation(rest[1])
    if word == "comp":
        return len(rest) == 2 and is_natural(rest[1])
    return (word, len(rest)) in (("page", 3), ("unpage", 2)) and all([is_content(part) for part in rest[1:]])


def content_text(content):
    """The text of a content."""
    if content is None:
        return "-"
    low, entries, follower = content
    listed = ",".join([key + "=" + integer_text(worth) for key, worth in entries])
    return "/".join([low, listed, "-" if follower is None else integer_text(follower)])


def text_of(row):
    """The text of a row."""
    items = row
    if row[0] == "op":
        items = row[:3] + row[3]
    elif row[0] in ("page", "unpage"):
        items = row[:3] + tuple([content_text(content) for content in row[3:]])
    return " ".join([item_text(item) for item in items])


def row_text(row):
    """The text of a row; raises BadRow."""
    if not is_row(row):
        raise BadRow(row)
    return text_of(row)


def pieces_of(row):
    """The sectors of a row, in order."""
    text = text_of(row)
    last = (len(text) - 1) // PIECE_SIZE * PIECE_SIZE
    found = ["+" + text[at:at + PIECE_SIZE] for at in range(0, last, PIECE_SIZE)]
    return tuple(found) + ("." + text[last:].ljust(PIECE_SIZE),)


def sectors_of(row):
    """The sectors of a row; raises BadRow."""
    if not is_row(row):
        raise BadRow(row)
    return pieces_of(row)


def entry_in(text):
    """What a text of an entry stands for."""
    key, _, worth = text.partition("=")
    return key, integer_of(worth)


def content_in(text):
    """What a text of a content stands for; () is no content."""
    if text == "-":
        return None
    parts = text.split("/")
    if len(parts) != 3:
        return ()
    entries = [entry_in(part) for part in parts[1].split(",")] if parts[1] else []
    return parts[0], tuple(entries), integer_of(parts[2])


def operation_in(items):
    """What the items of an operation stand for; perhaps no operation."""
    return tuple(items[:2] + [integer_of(item) for item in items[2:]])


def parts_in(items):
    """What the items of a row stand for; perhaps no row."""
    word = items[0]
    if word == "end":
        return (word, integer_of(items[1])) + tuple(items[2:]) if len(items) > 1 else ()
    numbers = tuple([integer_of(item) for item in items[1:3]])
    if word == "op":
        return (word,) + numbers + (operation_in(items[3:]),)
    if word in ("page", "unpage"):
        return (word,) + numbers + tuple([content_in(item) for item in items[3:]])
    return (word,) + numbers + tuple([integer_of(item) for item in items[3:]])


def row_in(text):
    """The row with a text, None if there is none."""
    row = parts_in(text.split(" "))
    # What stands in the text otherwise than in the row's own text is found by writing the row again.
    return row if is_row(row) and text_of(row) == text else None


def read_row(text):
    """The row with a text."""
    row = row_in(text) if isinstance(text, str) else None
    if row is None:
        raise BadText(text)
    return row


def is_sector(thing):
    """Whether any value is a sector."""
    return isinstance(thing, str) and len(thing) in (0, SECTOR_SIZE)


def is_device(thing):
    """Whether any value is a device."""
    if not isinstance(thing, tuple) or len(thing) != 2:
        return False
    sectors, safe = thing
    if not isinstance(sectors, tuple) or not all([is_sector(sector) for sector in sectors]):
        return False
    return is_natural(safe) and safe <= len(sectors) and "" not in sectors[:safe]


def check_device(device):
    """Raises BadDevice for any value that is not a device."""
    if not is_device(device):
        raise BadDevice(device)


def row_with(pieces):
    """The row with these sectors, None if there is none."""
    row = row_in("".join([piece[1:] for piece in pieces]).rstrip(" "))
    return row if row is not None and pieces_of(row) == pieces else None


def rows_in(sectors):
    """The rows whose sectors follow one another from the start, and the number of these sectors."""
    rows, length, pieces = [], 0, ()
    for at, sector in enumerate(sectors):
        pieces = pieces + (sector,)
        if sector[:1] == "+":
            continue
        row = row_with(pieces)
        if row is None:
            break
        rows.append(row)
        length, pieces = at + 1, ()
    return tuple(rows), length


def log_of(device):
    """The rows of the log of a device."""
    check_device(device)
    return rows_in(device[0])[0]


def length_of(device):
    """The number of the sectors of the log of a device."""
    check_device(device)
    return rows_in(device[0])[1]


def check_clean(device):
    """Raises BadDevice for any value that is not a clean device."""
    if length_of(device) < len(device[0]):
        raise BadDevice(device)


def with_row(device, row):
    """A clean device to which a row is written."""
    return device[0] + pieces_of(row), device[1]


def written(device, row):
    """A clean device to which a row is written; raises BadDevice and BadRow."""
    check_clean(device)
    if not is_row(row):
        raise BadRow(row)
    return with_row(device, row)


def forced(device):
    """A clean device with all sectors safe."""
    check_clean(device)
    return device[0], len(device[0])


def are_lost(device, thing):
    """Whether any value is an ascending tuple of positions of sectors that are not safe."""
    if not isinstance(thing, tuple) or not all([is_integer(at) for at in thing]):
        return False
    return is_ascending(thing) and all([device[1] <= at < len(device[0]) for at in thing])


def cut(device, lost):
    """A device after some of its sectors became blank."""
    check_device(device)
    if not are_lost(device, lost):
        raise BadLost(lost)
    gone = {at: True for at in lost}
    sectors = tuple(["" if at in gone else sector for at, sector in enumerate(device[0])])
    return sectors, rows_in(sectors)[1]


def mended(device):
    """A device with only the sectors of its log, all of them safe."""
    length = length_of(device)
    return device[0][:length], length
