"""What the tests share: the interface, odd values, wrong variants of values, and the examples' runner."""

import importlib
import re

from eachcut import errors
from eachcut.errors import BadTable, CutError

CELLS = (("add", "get", "set"), (("add", "get"), ("add", "set"), ("get", "set"), ("set", "set")))
ADDS = (("do", 1, "add"), ("do", 2, "add"), ("drop", 1), ("back", 1, 0), ("keep", 2))

INTERFACE = {
    "eachcut.tables": {
        "is_table": ("thing",),
        "does_conflict": ("table", "one", "other"),
        "table_text": ("table",),
        "read_table": ("text",),
        "is_coarser": ("table", "other"),
        "all_conflicts": ("table",),
        "without": ("table", "one", "other"),
    },
    "eachcut.histories": {
        "is_history": ("table", "thing"),
        "is_event": ("table", "history", "thing"),
        "state_of": ("table", "history", "t"),
        "kept_at": ("table", "history", "p"),
        "open_at": ("table", "history", "p"),
        "word_at": ("table", "history", "p"),
        "serial_word": ("table", "history", "order"),
    },
}

NO_WORDS = (
    "", "A", "Set", "seT", "set\n", "\nset", " set", "set ", "a b", "a1", "a_b", "a-b", "{", "`", "\u00e9",
    "abcdefghijk",
)
OTHERS = (
    True, False, None, -1, 3, 7, 10 ** 39, [], {}, (), [1], {"set": 1}, ("set",), ["set"], [["do", 1, "set"]],
    ((), ()), "zz", "do", "keep", "back", BadTable(1), CutError(),
)
ODD = NO_WORDS + OTHERS


def is_table_by_words(thing):
    """The definition once more, in other words than the program's."""
    if type(thing) is not tuple or [type(part) for part in thing] != [tuple, tuple]:
        return False
    kinds, conflicts = thing
    if not all(type(kind) is str and re.fullmatch("[a-z]{1,10}", kind) for kind in kinds):
        return False
    if not all(type(pair) is tuple and [type(kind) for kind in pair] == [str, str] for pair in conflicts):
        return False
    pairs = {(one, other) for one in kinds for other in kinds if one <= other}
    sorted_once = sorted(set(kinds)) == list(kinds) and sorted(set(conflicts)) == list(conflicts)
    return sorted_once and set(conflicts) <= pairs


def variants(value):
    """All values that differ from a value in one place, at any depth."""
    found = list(ODD)
    if isinstance(value, bool) or value is None:
        return found
    if isinstance(value, int):
        return found + [value - 1, value + 1, bool(value), str(value)]
    if isinstance(value, str):
        return found + [value + "a", value[:-1], value + "\n", value.upper(), (value,), [value]]
    if not isinstance(value, tuple):
        return found
    found.append(list(value))
    for at, part in enumerate(value):
        found.append(value[:at] + value[at + 1:])
        found.append(value[:at] + (part, part) + value[at + 1:])
        found.append(value[:at] + value[at + 1:at + 2] + (part,) + value[at + 2:])
        found.extend([value[:at] + (other,) + value[at + 1:] for other in variants(part)])
    return found + [value + (other,) for other in ODD] + [(value,), [value]]


def both_ways(name, *args):
    """The result of a function of the interface, called by position and by name."""
    for module, functions in INTERFACE.items():
        if name in functions:
            function = getattr(importlib.import_module(module), name)
            result = function(*args)
            again = function(**dict(zip(functions[name], args)))
            assert repr(result) == repr(again), (name, args, result, again)
            return result
    raise KeyError(name)


def error_of(call, *args):
    """The class name and the attributes of the error that a call raises; it is caught as CutError."""
    try:
        result = call(*args)
    except CutError as error:
        return error.__class__.__name__, vars(error)
    raise AssertionError(f"{call} with {args} raised nothing and returned {result!r}")


def raises(case, expected, value, name, *args):
    """Tests that a function raises an error with exactly this value, by position and by name."""
    functions = [functions for functions in INTERFACE.values() if name in functions]
    module = [module for module, functions in INTERFACE.items() if name in functions][0]
    function = getattr(importlib.import_module(module), name)
    for call in (lambda: function(*args), lambda: function(**dict(zip(functions[0][name], args)))):
        before = repr(args)
        kind, attributes = error_of(call)
        case.assertEqual(before, repr(args))
        case.assertEqual((expected, 1), (kind, len(attributes)), (name, args))
        found = list(attributes.values())[0]
        if isinstance(value, (int, tuple, str)):
            case.assertEqual((value, value.__class__), (found, found.__class__), (name, args))
        else:
            case.assertIs(value, found, (name, args))


def run_examples(case, text):
    """Runs examples as they stand in the document."""
    names = {}
    lines = text.strip().split("\n")
    for at, line in enumerate(lines):
        if not line.startswith(">>> "):
            continue
        following = lines[at + 1] if at + 1 < len(lines) else ">>> "
        if following.startswith(">>> "):
            exec(line[4:], names)
        elif following.startswith("raises "):
            kind, rest = following[len("raises "):].split("(", 1)
            case.assertTrue(hasattr(errors, kind))
            case.assertEqual((kind, eval("dict(" + rest)), error_of(lambda: eval(line[4:], names)))
        else:
            case.assertEqual(following, repr(eval(line[4:], names)))
