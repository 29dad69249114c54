"""Conflict tables: which kinds of operations do not commute."""

from eachcut.checks import is_ascending, is_plain_word
from eachcut.errors import BadKind, BadLine, BadPair, BadTable


def is_table(thing):
    """Whether any value is a pair (kinds, conflicts)."""
    if not isinstance(thing, tuple) or len(thing) != 2:
        return False
    kinds, conflicts = thing
    return are_kinds(kinds) and are_conflicts(kinds, conflicts)


def are_kinds(thing):
    """Whether any value is an ascending tuple of words."""
    if not isinstance(thing, tuple):
        return False
    # The words come first: only strings can be compared with each other.
    return all([is_plain_word(kind) for kind in thing]) and is_ascending(thing)


def are_conflicts(kinds, thing):
    """Whether any value is an ascending tuple of pairs of these kinds."""
    if not isinstance(thing, tuple):
        return False
    return all([is_pair(kinds, pair) for pair in thing]) and is_ascending(thing)


def is_pair(kinds, thing):
    """Whether any value is a pair of these kinds, the smaller one first."""
    if not isinstance(thing, tuple) or len(thing) != 2:
        return False
    one, other = thing
    return one in kinds and other in kinds and one <= other


def check_table(table):
    """Raises BadTable for any value that is not a table."""
    if not is_table(table):
        raise BadTable(table)


def pair_in(table, one, other):
    """The pair of two kinds of a table, the smaller one first."""
    check_table(table)
    for kind in (one, other):
        if kind not in table[0]:
            raise BadKind(kind)
    return (one, other) if one <= other else (other, one)


def does_conflict(table, one, other):
    """Whether two kinds of a table conflict."""
    return pair_in(table, one, other) in table[1]


def table_text(table):
    """The text of a table."""
    check_table(table)
    kinds, conflicts = table
    lines = [("kinds",) + kinds] + [("conflict",) + pair for pair in conflicts]
    return "\n".join([" ".join(line) for line in lines])


def items_behind(word, line):
    """The tuple of the items of a line behind its first word, None if it begins with another one."""
    # Splitting at each single blank keeps blanks too many as empty items, which are no kinds.
    items = line.split(" ")
    return tuple(items[1:]) if items[0] == word else None


def read_table(text):
    """The table with a text."""
    if not isinstance(text, str):
        raise BadLine(0)
    # Not splitlines: it breaks lines at other characters too, and drops an empty last line.
    lines = text.split("\n")
    kinds = items_behind("kinds", lines[0])
    if not are_kinds(kinds):
        raise BadLine(1)
    conflicts = ()
    for at, line in enumerate(lines[1:], start=2):
        pair = items_behind("conflict", line)
        if not are_conflicts(kinds, conflicts[-1:] + (pair,)):
            raise BadLine(at)
        conflicts = conflicts + (pair,)
    return kinds, conflicts


def is_coarser(table, other):
    """Whether a table is coarser than or equal to another one."""
    check_table(table)
    check_table(other)
    if table[0] != other[0]:
        return False
    return all([pair in table[1] for pair in other[1]])


def all_conflicts(table):
    """The table with the same kinds in which every two kinds conflict."""
    check_table(table)
    kinds = table[0]
    return kinds, tuple([(one, other) for one in kinds for other in kinds if one <= other])


def without(table, one, other):
    """The table without a conflict."""
    pair = pair_in(table, one, other)
    kinds, conflicts = table
    if pair not in conflicts:
        raise BadPair(pair)
    return kinds, tuple([kept for kept in conflicts if kept != pair])
