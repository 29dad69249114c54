import random
import re
import unittest
from itertools import combinations

from eachcut.disks import (
    cut, forced, is_content, is_device, is_operation, is_row, log_of, mended, read_row, row_text, sectors_of,
    written,
)
from eachcut.errors import CutError
from helper import NO_WORDS, ODD, both_ways, error_of, raises, rejects, run_examples, variants

START, PAGE = ("start", 4), ("page", 0, 0, ("", (), None), ("", (("a", 5),), None))
FULL = ("k", (("k", 1), ("la", -22), ("zzzzzzzzz", 10 ** 39)), 7)
ROWS = (
    START, PAGE, ("start", 0), ("page", 3, 1, None, ("", (), None)), ("page", 12, 7, FULL, None),
    ("page", 0, 0, FULL, FULL), ("unpage", 3, 1, None), ("unpage", 0, 25, FULL), ("op", 1, 2, ("read", "abc")),
    ("op", 1, 2, ("set", "a", 5, -3)), ("op", 0, 0, ("add", "abcdefghi", -10 ** 39)), ("comp", 4, 9, 2),
    ("end", 4, "kept"), ("end", 0, "dropped"), ("unpage", 3, 1, ("", (("b", 1),), 0)),
)
# Texts of exactly 15, 30 and 31 characters, and of 1 more or less.
FIFTEEN = ("start", 123456789)
THIRTY = ("op", 12, 3456, ("add", "abcdefghi", 12345))
SIZED = (
    (("start", 12345678), 1), (FIFTEEN, 1), (("start", 1234567890), 2),
    (("op", 12, 345, ("add", "abcdefghi", 12345)), 2),
    (THIRTY, 2), (("op", 12, 3456, ("add", "abcdefghi", 123456)), 3),
)

EXAMPLES = r"""
>>> from eachcut.disks import cut, forced, is_content, length_of, log_of, mended, read_row, row_text, sectors_of, written
>>> START, PAGE = ("start", 4), ("page", 0, 0, ("", (), None), ("", (("a", 5),), None))
>>> DEVICE = written(forced(written(((), 0), START)), PAGE)
>>> [row_text(PAGE), sectors_of(START), len(DEVICE[0]), DEVICE[1], log_of(DEVICE) == (START, PAGE), read_row("op 4 0 add a 5"), is_content(("b", (("a", 1),), None))]
['page 0 0 //- /a=5/-', ('.start 4        ',), 3, 1, True, ('op', 4, 0, ('add', 'a', 5)), False]
>>> [log_of(cut(DEVICE, (2,))), cut(DEVICE, (2,))[1], length_of(mended(cut(DEVICE, (1,))))]
[(('start', 4),), 1, 1]
>>> cut(DEVICE, (0,))
raises BadLost(thing=(0,))
"""

NUMBER, WORTH, KEY = "(?:0|[1-9][0-9]*)", "(?:0|-?[1-9][0-9]*)", "[a-z]{1,9}"
ENTRY = KEY + "=-?[1-9][0-9]*"
CONTENT = f"(?:-|(?:{KEY})?/(?:{ENTRY}(?:,{ENTRY}){{0,2}})?/(?:-|{NUMBER}))"
OPERATION = f"(?:read {KEY}|set {KEY} {WORTH} {WORTH}|add {KEY} {WORTH})"
ROW = "|".join([
    f"start {NUMBER}", f"page {NUMBER} {NUMBER} {CONTENT} {CONTENT}", f"unpage {NUMBER} {NUMBER} {CONTENT}",
    f"op {NUMBER} {NUMBER} {OPERATION}", f"comp {NUMBER} {NUMBER} {NUMBER}", f"end {NUMBER} (?:kept|dropped)",
])


def is_key_by_words(thing):
    return type(thing) is str and re.fullmatch(KEY, thing) is not None


def is_number(thing):
    return type(thing) is int and thing >= 0


def is_operation_by_words(thing):
    if type(thing) is not tuple or [type(part) for part in thing[:2]] != [str, str] or not is_key_by_words(thing[1]):
        return False
    return [type(part) for part in thing[2:]] == [int] * {"read": 0, "set": 2, "add": 1}.get(thing[0], 99)


def is_content_by_words(thing):
    if thing is None:
        return True
    if type(thing) is not tuple or [type(part) for part in thing[:2]] != [str, tuple] or len(thing) != 3:
        return False
    low, entries, behind = thing
    if not (low == "" or is_key_by_words(low)) or not (behind is None or is_number(behind)) or len(entries) > 3:
        return False
    if any(type(entry) is not tuple or [type(part) for part in entry] != [str, int] for entry in entries):
        return False
    if not all(is_key_by_words(key) and worth != 0 for key, worth in entries):
        return False
    keys = [key for key, _ in entries]
    return sorted(set(keys)) == keys and min([low] + keys) == low


def is_row_by_words(thing):
    if type(thing) is not tuple or thing == () or type(thing[0]) is not str:
        return False
    shapes = {
        "start": (is_number,),
        "page": (is_number, is_number, is_content_by_words, is_content_by_words),
        "unpage": (is_number, is_number, is_content_by_words),
        "op": (is_number, is_number, is_operation_by_words),
        "comp": (is_number, is_number, is_number),
        "end": (is_number, lambda part: type(part) is str and part in ("kept", "dropped")),
    }
    checks = shapes.get(thing[0])
    if checks is None or len(checks) != len(thing) - 1:
        return False
    return all(check(part) for check, part in zip(checks, thing[1:]))


def content_text_by_words(content):
    if content is None:
        return "-"
    low, entries, behind = content
    return f"{low}/{','.join([f'{key}={worth}' for key, worth in entries])}/{'-' if behind is None else behind}"


def row_text_by_words(row):
    if row[0] in ("page", "unpage"):
        return " ".join([str(part) for part in row[:3]] + [content_text_by_words(part) for part in row[3:]])
    return " ".join([str(part) for part in row[:3]] + [str(part) for part in (row[3] if row[0] == "op" else row[3:])])


def content_by_words(text):
    """The content with a text that fits the pattern of contents."""
    if text == "-":
        return None
    low, entries, behind = text.split("/")
    pairs = [entry.split("=") for entry in entries.split(",") if entry]
    return low, tuple([(key, int(worth)) for key, worth in pairs]), None if behind == "-" else int(behind)


def row_by_words(text):
    """The row with a text, None without one."""
    if type(text) is not str or not re.fullmatch(ROW, text):
        return None
    word, *parts = text.split(" ")
    if word in ("page", "unpage"):
        row = (word, int(parts[0]), int(parts[1])) + tuple([content_by_words(part) for part in parts[2:]])
        return row if is_row_by_words(row) else None
    parts = [part if part.isalpha() else int(part) for part in parts]
    return (word, *parts[:2], tuple(parts[2:])) if word == "op" else (word, *parts)


def sectors_by_words(row):
    text = row_text_by_words(row)
    pieces = [text[at:at + 15] for at in range(0, len(text), 15)]
    return tuple(["+" + piece for piece in pieces[:-1]] + [("." + pieces[-1] + " " * 15)[:16]])


def rows_by_words(sectors):
    """The rows from the start, each with the number of the sectors up to its end."""
    found, start = [], 0
    for end in range(1, len(sectors) + 1):
        text = "".join([sector[1:] for sector in sectors[start:end]]).rstrip(" ")
        row = row_by_words(text)
        if row is not None and sectors_by_words(row) == sectors[start:end]:
            found.append((row, end))
            start = end
    return found


def log_by_words(device):
    return tuple([row for row, _ in rows_by_words(device[0])])


def length_by_words(device):
    return max([0] + [end for _, end in rows_by_words(device[0])])


def is_device_by_words(thing):
    if type(thing) is not tuple or [type(part) for part in thing] != [tuple, int]:
        return False
    sectors, safe = thing
    if any(type(sector) is not str or len(sector) not in (0, 16) for sector in sectors):
        return False
    return 0 <= safe <= len(sectors) and all(sectors[:safe])


def is_clean_by_words(thing):
    return is_device_by_words(thing) and length_by_words(thing) == len(thing[0])


def are_lost_by_words(device, thing):
    if type(thing) is not tuple or any(type(part) is not int for part in thing):
        return False
    return sorted(set(thing)) == list(thing) and all(at in range(device[1], len(device[0])) for at in thing)


def device_with(*rows):
    device = ((), 0)
    for row in rows:
        device = written(device, row)
    return device


def drawn_content(chance):
    if chance.random() < 0.2:
        return None
    keys = sorted(chance.sample(["a", "b", "c", "ka", "kb", "zzzzzzzzz"], chance.randrange(4)))
    low = chance.choice(("", keys[0] if keys else "m"))
    entries = [(key, chance.choice((1, -1, 5, -10 ** 8, 999999999))) for key in keys]
    return low, tuple(entries), chance.choice((None, 0, 7))


def drawn_row(chance):
    t, op, n = [chance.choice((0, 1, 7, 12, 999999999)) for _ in range(3)]
    worth, old = [chance.choice((0, 1, -7, 999999999)) for _ in range(2)]
    key = chance.choice(("a", "b", "abcdefghi"))
    operation = chance.choice((("read", key), ("set", key, worth, old), ("add", key, worth)))
    return chance.choice((
        ("start", t), ("page", op, n, drawn_content(chance), drawn_content(chance)), ("op", t, op, operation),
        ("unpage", op, n, drawn_content(chance)), ("comp", t, op, n), ("end", t, chance.choice(("kept", "dropped"))),
    ))


class TestRows(unittest.TestCase):
    def test_examples(self):
        run_examples(self, EXAMPLES)

    def check_row(self, row):
        """Tests the text and the sectors of a row."""
        self.assertIs(True, is_row_by_words(row))
        self.assertIs(True, both_ways("is_row", row))
        text = both_ways("row_text", row)
        self.assertEqual(row_text_by_words(row), text)
        self.assertEqual(row, both_ways("read_row", text))
        sectors = both_ways("sectors_of", row)
        self.assertEqual(sectors_by_words(row), sectors)
        self.assertEqual([16] * len(sectors), [len(sector) for sector in sectors])
        self.assertEqual(text, "".join([sector[1:] for sector in sectors]).rstrip(" "))
        self.assertEqual("+" * (len(sectors) - 1) + ".", "".join([sector[0] for sector in sectors]))

    def test_named_rows(self):
        for row in ROWS:
            self.check_row(row)
        for row, text in (
            (START, "start 4"), (ROWS[4], "page 12 7 k/k=1,la=-22,zzzzzzzzz=1" + "0" * 39 + "/7 -"),
            (ROWS[3], "page 3 1 - //-"), (ROWS[6], "unpage 3 1 -"), (ROWS[14], "unpage 3 1 /b=1/0"),
            (ROWS[8], "op 1 2 read abc"), (ROWS[9], "op 1 2 set a 5 -3"), (ROWS[11], "comp 4 9 2"),
            (ROWS[12], "end 4 kept"), (ROWS[13], "end 0 dropped"),
        ):
            self.assertEqual(text, both_ways("row_text", row))

    def test_drawn_rows(self):
        for seed in range(500):
            self.check_row(drawn_row(random.Random(seed)))

    def test_sizes(self):
        for row, many in SIZED:
            self.check_row(row)
            self.assertEqual(many, len(sectors_of(row)))
        self.assertEqual([14, 15, 16, 29, 30, 31], [len(row_text(row)) for row, _ in SIZED])
        self.assertEqual((".start 123456789",), both_ways("sectors_of", FIFTEEN))
        self.assertEqual(("+op 12 3456 add ", ".abcdefghi 12345"), both_ways("sectors_of", THIRTY))
        self.assertEqual(".6" + " " * 14, both_ways("sectors_of", SIZED[5][0])[2])

    def test_operations(self):
        for thing in (("read", "a"), ("set", "abcdefghi", 0, -5), ("add", "z", 10 ** 39), ("add", "a", 0)):
            self.assertIs(True, both_ways("is_operation", thing))
            for other in variants(thing):
                self.assertIs(is_operation_by_words(other), is_operation(other), other)
        for thing in ODD + (
            ("read",), ("read", "a", 1), ("read", "abcdefghij"), ("read", ""), ("read", "A"), ("read", "a\n"),
            ("set", "a", 1),
            ("set", "a", 1, True), ("set", "a", 1, 2, 3), ("add", "a"), ("add", "a", 1, 2), ("add", "a", False),
            ["add", "a", 1],
            ("add", "a", "1"), ("put", "a", 1), (True, "a"), ("add", ("a",), 1), ((), "a"), (["read"], "a"), CutError(),
        ):
            self.assertIs(False, is_operation_by_words(thing), thing)
            self.assertIs(False, both_ways("is_operation", thing), thing)
        for key in NO_WORDS:
            self.assertIs(False, both_ways("is_operation", ("read", key)), key)

    def test_contents(self):
        entries = (("b", 1), ("c", -2), ("d", 10 ** 39))
        for many in range(4):
            for low in ("", "a", "b"):
                for behind in (None, 0, 10 ** 39):
                    thing = (low, entries[:many], behind)
                    self.assertIs(True, both_ways("is_content", thing), thing)
                    for other in variants(thing):
                        self.assertIs(is_content_by_words(other), is_content(other), other)
        self.assertIs(True, both_ways("is_content", None))
        for thing in (
            ("c", entries, None), ("bb", entries, None), ("", entries + (("e", 1),), None), ("", entries[::-1], None),
            ("", (("a", 0),), None), ("", (("a", 1), ("a", 2)), None), ("", (("a", True),), None), ("", (), True),
            ("", ()),
            ("", (), -1), ("", (["a", 1],), None), ("", [("a", 1)], None), (None, (), None), ("abcdefghij", (), None),
            ("a\n", (), None), ("A", (), None), ("", (("abcdefghij", 1),), None), ("", (("", 1),), None),
            ["", (), None],
            ("", (("a",),), None), ("", (("a", 1, 1),), None), ("", (("a", 1),), "-"), (), ("", (), None, None), "-",
            "//-",
        ):
            self.assertIs(False, is_content_by_words(thing), thing)
            self.assertIs(False, both_ways("is_content", thing), thing)

    def test_variants_of_rows(self):
        for row in ROWS:
            for thing in variants(row):
                self.assertIs(is_row_by_words(thing), is_row(thing), thing)

    def test_no_row(self):
        for thing in ODD + (
            ("start",), ("start", True), ("start", -1), ("start", "4"), ("start", 4, 4), ["start", 4], ("begin", 4),
            (4, "start"),
            ("page", 0, 0, None), ("page", 0, 0, None, None, None), ("unpage", 0, 0), ("unpage", 0, 0, None, None),
            ("page", 0, 0, None, ()), ("page", False, 0, None, None), ("page", 0, -1, None, None), ("op", 0, 0),
            ("op", 0, 0, ("set", "a", 1)), ("op", 0, 0, ["read", "a"]), ("op", 0, 0, "read", "a"), ("comp", 0, 0),
            ("comp", 0, 0, None), ("comp", 0, 0, 0, 0), ("comp", 0, 0, -1), ("end", 0), ("end", 0, "keep"),
            ("end", 0, "kept\n"),
            ("end", 0, ("kept",)), ("end", 0, "kept", "kept"), ("end", "kept"), ("op", 0, 0, None), CutError(),
            ([], 0), ({}, 0),
        ):
            self.assertIs(False, is_row_by_words(thing), thing)
            self.assertIs(False, both_ways("is_row", thing), thing)
            raises(self, "BadRow", thing, "row_text", thing)
            raises(self, "BadRow", thing, "sectors_of", thing)
            raises(self, "BadRow", thing, "written", ((), 0), thing)


class TestTexts(unittest.TestCase):
    def check_text(self, text):
        row = row_by_words(text)
        if row is None:
            raises(self, "BadText", text, "read_row", text)
        else:
            self.assertEqual(row, both_ways("read_row", text))
            self.assertEqual(text, row_text(row))

    def test_changed_texts(self):
        """Each text with one character more, less or otherwise, and with two of its items exchanged."""
        signs = " \n-+=,/0158azkA_.\u0661"
        for row in ROWS + tuple([row for row, _ in SIZED]):
            text = row_text(row)
            self.check_text(text)
            for at in range(len(text) + 1):
                self.check_text(text[:at] + text[at + 1:])
                for sign in signs:
                    self.check_text(text[:at] + sign + text[at:])
                    self.check_text(text[:at] + sign + text[at + 1:])
            items = text.split(" ")
            for one, other in combinations(range(len(items)), 2):
                swapped = list(items)
                swapped[one], swapped[other] = items[other], items[one]
                self.check_text(" ".join(swapped))
                self.check_text(" ".join(items[:one] + items[other:]))

    def test_wrong_texts(self):
        for text in (
            "", " ", "start", "start ", "start  4", " start 4", "start 4 ", "start 04", "start +4", "start -4",
            "start -0",
            "start 4\n", "\nstart 4", "start\n4", "start 4_0", "start 4.0", "start \u0664", "start \u00b2", "Start 4",
            "start a",
            "start 4 4", "comp 1 2", "comp 1 2 3 4", "comp 1 2 -3", "end 4", "end 4 keep", "end 4 Kept", "end kept",
            "end",
            "end 4 kept kept", "end 4 kept ", "end -1 kept", "end 04 kept",
            "op 1 2", "op 1 2 read", "op 1 2 read A", "op 1 2 read a 1", "op 1 2 set a 1", "op 1 2 set a 1 2 3",
            "op 1 2 add a -0",
            "op 1 2 add a 01", "op 1 2 add a +1", "op 1 2 add a", "op 1 2 add  1", "op 1 2 put a 1",
            "op 1 2 add abcdefghij 1", "op",
            "page 0 0 -", "page 0 0 - - -", "page 0 0 // //", "page 0 0 - /", "page 0 0 - ///", "page 0 0 - /a=0/-",
            "page",
            "page 0 0 - /a=1,/-", "page 0 0 - /,a=1/-", "page 0 0 - /a=1,a=2/-", "page 0 0 - /b=1,a=2/-",
            "page 0 0 - b/a=1/-",
            "page 0 0 - /a=01/-", "page 0 0 - /a=-0/-", "page 0 0 - /a=+1/-", "page 0 0 - /a=1=2/-", "page 0 0 - /a/-",
            "page 0 0 - /=1/-", "page 0 0 - //-1", "page 0 0 - //00", "page 0 0 - //a", "page 0 0 - /a=1,b=1,c=1,d=1/-",
            "page 0 0 - /a= 1/-", "page 0 0  -", "unpage 0 0", "unpage 0 0 - -", "unpage 0 0 None", "unpage 0 0 --",
            "unpage 0 0 //",
        ):
            self.assertIsNone(row_by_words(text), text)
            raises(self, "BadText", text, "read_row", text)

    def test_no_text(self):
        for thing in ODD + (START, b"start 4", ["start 4"], ("start 4",), {"start 4": 4}, CutError()):
            raises(self, "BadText", thing, "read_row", thing)

    def test_large_numbers(self):
        """Also numbers with more digits than Python itself reads at once."""
        for digits in (1, 9, 39, 63, 64, 65, 127, 128, 129, 990):
            for sign in ("", "-"):
                text = f"op 0 0 add a {sign}{'9081726354' * 500}"[:13 + len(sign) + digits]
                row = both_ways("read_row", text)
                self.assertIs(True, is_row(row))
                self.assertEqual(text, both_ways("row_text", row))
                self.assertEqual(int(text[13:]), row[3][2])
        text = "start " + "9081726354" * 500
        self.assertEqual(text, row_text(read_row(text)))
        self.assertEqual(9081726354, read_row(text)[1] // 10 ** 4990)
        self.assertEqual(read_row(text), log_of((sectors_of(read_row(text)), 0))[0])
        for number in (0, 10 ** 63, 10 ** 64 - 1, 10 ** 64, 10 ** 64 + 1, 10 ** 128, 10 ** 128 - 1, 5 * 10 ** 900 + 3):
            for worth in (number, -number):
                self.assertEqual(f"op 0 0 add a {worth}", both_ways("row_text", ("op", 0, 0, ("add", "a", worth))))
                self.assertEqual(worth, read_row(f"op 0 0 add a {worth}")[3][2])


class TestDevices(unittest.TestCase):
    def check_device(self, device):
        """Tests what is read off any device, and what mending leaves."""
        self.assertIs(True, is_device_by_words(device), device)
        self.assertIs(True, both_ways("is_device", device))
        log, length = log_by_words(device), length_by_words(device)
        self.assertEqual(log, both_ways("log_of", device), device)
        self.assertEqual(length, both_ways("length_of", device), device)
        self.assertEqual((device[0][:length], length), both_ways("mended", device))
        self.assertEqual(sum([len(sectors_of(row)) for row in log]), length)
        if length == len(device[0]):
            self.assertEqual((device[0], length), both_ways("forced", device))
            self.assertEqual((device[0] + sectors_of(PAGE), device[1]), both_ways("written", device, PAGE))
        else:
            raises(self, "BadDevice", device, "forced", device)
            raises(self, "BadDevice", device, "written", device, PAGE)
            raises(self, "BadDevice", device, "written", device, None)

    def check_cut(self, device, lost):
        """[10.5] and, where it is promised, [10.6]; returns the device after the cut."""
        after = both_ways("cut", device, lost)
        sectors = tuple(["" if at in lost else sector for at, sector in enumerate(device[0])])
        self.assertEqual((sectors, length_by_words((sectors, 0))), after, (device, lost))
        self.check_device(after)
        log = log_of(after)
        self.assertEqual(log_of(device)[:len(log)], log)
        self.assertEqual(log, log_of(mended(after)))
        ends = [end for _, end in rows_by_words(device[0])]
        if is_clean_by_words(device) and device[1] in [0] + ends:
            self.assertLessEqual(len([end for end in ends if end <= device[1]]), len(log))
        return after

    def test_empty(self):
        self.check_device(((), 0))
        self.assertEqual(((), 0), self.check_cut(((), 0), ()))
        self.assertEqual(((), 0), both_ways("forced", ((), 0)))
        self.assertEqual(((), 0), both_ways("mended", ((), 0)))
        self.assertEqual(((".start 4        ",), 0), both_ways("written", ((), 0), START))

    def test_each_lost_sector(self):
        """Blank sectors at each place, with safe at the start, behind each row and at the end."""
        for rows in ((START,), (START, PAGE), (PAGE, START), (PAGE, THIRTY, START), (START, FIFTEEN, PAGE, THIRTY)):
            device = device_with(*rows)
            many = len(device[0])
            self.assertEqual(rows, log_of(device))
            for safe in [0] + [end for _, end in rows_by_words(device[0])]:
                for chosen in range(many - safe + 1):
                    for lost in combinations(range(safe, many), chosen):
                        after = self.check_cut((device[0], safe), lost)
                        self.assertEqual(lost == (), after[0] == device[0])
                        whole = [row for row, end in rows_by_words(device[0]) if not lost or end <= lost[0]]
                        self.assertEqual(tuple(whole), log_of(after))

    def test_cuts_of_cuts(self):
        for seed in range(100):
            chance = random.Random(seed)
            device = device_with(*[drawn_row(chance) for _ in range(chance.randint(0, 6))])
            ends = [0] + [end for _, end in rows_by_words(device[0])]
            device = (device[0], chance.choice(ends))
            after = device
            while after[1] < len(after[0]) and chance.random() < 0.8:
                loose = range(after[1], len(after[0]))
                lost = tuple(sorted(chance.sample(loose, chance.randint(0, len(loose)))))
                before = after
                after = self.check_cut(before, lost)
                if before is not device:
                    self.assertEqual(log_of(before), log_of(after))
            self.assertEqual(log_of(after), log_of(device)[:len(log_of(after))])
            self.check_device(both_ways("mended", after))
            self.assertEqual(both_ways("mended", after), both_ways("mended", both_ways("mended", after)))

    def test_rows_that_are_cut_in_their_middle(self):
        device = device_with(START, THIRTY, PAGE)
        for lost, log, safe in (
            ((), (START, THIRTY, PAGE), 5), ((4,), (START, THIRTY), 3), ((3,), (START, THIRTY), 3), ((2,), (START,), 1),
            ((1,), (START,), 1), ((0,), (), 0), ((0, 4), (), 0), ((2, 3), (START,), 1),
        ):
            self.assertEqual(log, log_of(cut(device, lost)))
            self.assertEqual(safe, cut(device, lost)[1])

    def test_devices_that_are_not_clean(self):
        start, page, thirty = sectors_of(START), sectors_of(PAGE), sectors_of(THIRTY)
        for sectors in (
            ("",), start + ("",), ("",) + start, page[:1], page[1:], page[:1] + start, page[:1] + page,
            start + page[:1],
            page[:1] + ("",) + page[1:], thirty[:1] + thirty[:1] + thirty[1:], thirty[::-1], start + ("x" * 16,),
            (" " * 16,), ("+" + " " * 15,), ("." + " " * 15,), (".start 4       \n",), (".start 4      5 ",),
            ("-start 4        ",), (" start 4        ",), ("+start 4        ", ".               "),
            (". start 4       ",),
            ("+start 1234567890", ), (".start 04       ",), ("+start 123456789", "." + " " * 15),
            start * 2 + ("\n" * 16,),
            ("+start 123456789",) + ("+" + "0" * 15,) * 3, ("+start 123456789",) + ("." + "0" * 15,),
            ("+start 123456789",) + ("+" + "0" * 15,) * 60 + (".7" + " " * 14,),
        ):
            for safe in range(min(len(sectors), 4) + 1):
                if is_device_by_words((sectors, safe)):
                    self.check_device((sectors, safe))
                    loose = tuple(range(safe, len(sectors)))
                    self.check_cut((sectors, safe), ())
                    self.check_cut((sectors, safe), loose)
                else:
                    self.assertIs(False, both_ways("is_device", (sectors, safe)))

    def test_safe_in_the_middle_of_a_row(self):
        device = (device_with(START, PAGE)[0], 2)
        self.check_device(device)
        self.assertEqual(1, self.check_cut(device, (2,))[1])
        self.assertEqual(3, self.check_cut(device, ())[1])

    def test_by_both_ways(self):
        device = both_ways("written", both_ways("forced", both_ways("written", ((), 0), START)), PAGE)
        self.assertEqual(1, device[1])
        self.assertEqual((START, PAGE), both_ways("log_of", device))
        self.assertEqual(3, both_ways("length_of", device))
        self.assertEqual((device[0], 3), both_ways("forced", device))
        self.assertEqual((device[0][:1], 1), both_ways("mended", both_ways("cut", device, (1,))))

    def test_longest(self):
        chance = random.Random(1)
        rows = [drawn_row(chance) for _ in range(200)]
        device = ((), 0)
        for row in rows:
            device = (device[0] + sectors_of(row), 0)
        self.assertEqual(tuple(rows), both_ways("log_of", device))
        self.assertEqual(device[0] + sectors_of(START), both_ways("written", device, START)[0])
        self.assertEqual(tuple(rows[:-1]), log_of(cut(device, (len(device[0]) - 1,))))


class TestWrongValues(unittest.TestCase):
    def test_variants_of_devices(self):
        for device in (
            device_with(START, PAGE), (device_with(START, PAGE)[0], 1), ((), 0), (("", "x" * 16), 0), (("",), 0),
        ):
            for thing in variants(device):
                self.assertIs(is_device_by_words(thing), is_device(thing), thing)
                if is_device_by_words(thing):
                    self.assertEqual(log_by_words(thing), log_of(thing))

    def test_no_device(self):
        start = sectors_of(START)
        for thing in ODD + (
            (start,), (start, 0, 0), [start, 0], (list(start), 0), (start, 2), (start, -1), (start, True),
            (start, False),
            (start, "0"), (start, None), (("",), 1), (start + ("",), 2), (("x" * 15,), 0), (("x" * 17,), 0),
            ((" ",), 0),
            ((None,), 0), ((start,), 0), (start[0], 0), (0, start), ((0,), 0), CutError(), (None, 0), ({}, 0), ("", 0),
        ):
            self.assertIs(False, is_device_by_words(thing), thing)
            self.assertIs(False, both_ways("is_device", thing), thing)
            for name, rest in (
                ("log_of", ()), ("length_of", ()), ("written", (None,)), ("forced", ()), ("cut", (None,)),
                ("mended", ()),
            ):
                raises(self, "BadDevice", thing, name, thing, *rest)

    def test_no_lost_sectors(self):
        device = (device_with(START, PAGE, START)[0], 1)
        for thing in ODD + (
            (0,), (4,), (0, 1), (2, 1), (1, 1), (1, 2, 2), (1, True), (-1,), (1, 4), [1], (1, "2"), (None,), ((1,),),
            (True,), {1: 2},
        ):
            if thing != ():
                self.assertIs(False, are_lost_by_words(device, thing), thing)
                raises(self, "BadLost", thing, "cut", device, thing)
        raises(self, "BadLost", (0,), "cut", ((), 0), (0,))

    def test_each_argument(self):
        device = (device_with(START, PAGE)[0], 1)
        any_device, clean = ("BadDevice", is_device_by_words), ("BadDevice", is_clean_by_words)
        for name in ("log_of", "length_of", "mended"):
            rejects(self, name, (device,), (any_device,))
        rejects(self, "forced", (device,), (clean,))
        rejects(self, "written", (device, PAGE), (clean, ("BadRow", is_row_by_words)))
        rejects(
            self, "cut", (device, (1, 2)), (any_device, ("BadLost", lambda thing: are_lost_by_words(device, thing))),
        )
        rejects(self, "row_text", (PAGE,), (("BadRow", is_row_by_words),))
        rejects(self, "sectors_of", (PAGE,), (("BadRow", is_row_by_words),))
        rejects(self, "read_row", ("page 0 0 - /a=1/-",), (("BadText", lambda thing: row_by_words(thing) is not None),))

    def test_first_error(self):
        not_clean = ((".start 4        ", ""), 0)
        self.assertEqual(("BadDevice", {"thing": not_clean}), error_of(written, not_clean, ("start",)))
        self.assertEqual(("BadRow", {"thing": ("start",)}), error_of(written, ((), 0), ("start",)))
        self.assertEqual(((".start 4        ", ""), 1), cut(not_clean, (1,)))
        self.assertEqual(((".start 4        ",), 1), mended(not_clean))

    def test_same_call_twice(self):
        device = device_with(*ROWS)
        self.assertEqual(log_of(device), log_of(device))
        self.assertEqual(forced(device), forced(device))
        self.assertEqual(cut(device, (3,)), cut(device, (3,)))


if __name__ == "__main__":
    unittest.main()
