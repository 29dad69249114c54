import random
import unittest
from itertools import combinations, product

from eachcut.tables import is_table, read_table, table_text
from helper import CELLS, ODD, both_ways, is_table_by_words, raises, run_examples, variants

EMPTY = ((), ())
LOOP = (("a",), (("a", "a"),))
LONG = (("abcdefghij", "z"), (("abcdefghij", "z"), ("z", "z")))
LETTERS = "abcdefghijklmnopqrstuvwxyz"
MANY = tuple(sorted([one + other for one in "abcdef" for other in "uvwxyz"]))
PAIRS = tuple([(one, other) for one in MANY for other in MANY if one <= other])
TABLES = (CELLS, EMPTY, LOOP, LONG, (MANY, ()), (MANY, PAIRS), (("b", "c"), ()))

EXAMPLES = r"""
>>> from eachcut.tables import all_conflicts, does_conflict, is_coarser, is_table, read_table, table_text, without
>>> CELLS = (("add", "get", "set"), (("add", "get"), ("add", "set"), ("get", "set"), ("set", "set")))
>>> [is_table(CELLS), does_conflict(CELLS, "add", "add"), does_conflict(CELLS, "set", "add"), table_text(CELLS)]
[True, False, True, 'kinds add get set\nconflict add get\nconflict add set\nconflict get set\nconflict set set']
>>> [read_table('kinds a b\nconflict a b'), len(all_conflicts(CELLS)[1]), is_coarser(all_conflicts(CELLS), CELLS), without(read_table('kinds a b\nconflict a b'), "b", "a")]
[(('a', 'b'), (('a', 'b'),)), 6, True, (('a', 'b'), ())]
>>> read_table('kinds a b\nconflict b a')
raises BadLine(at=2)
"""


def small_tables():
    """All tables with kinds among a and b."""
    found = []
    for kinds in ((), ("a",), ("b",), ("a", "b")):
        pairs = [(one, other) for one in kinds for other in kinds if one <= other]
        for many in range(len(pairs) + 1):
            found.extend([(kinds, chosen) for chosen in combinations(pairs, many)])
    return found


class TestTables(unittest.TestCase):
    def test_examples(self):
        run_examples(self, EXAMPLES)

    def test_tables(self):
        for table in TABLES + tuple(small_tables()):
            self.assertIs(True, both_ways("is_table", table))

    def test_more_kinds_than_the_limit(self):
        kinds = tuple(sorted(MANY + ("x", "y", "z", "zz")))
        self.assertIs(True, is_table((kinds, ())))
        self.assertEqual((kinds, ()), read_table(table_text((kinds, ()))))

    def test_wrong_tables(self):
        wrong = (
            [["a"], []], (["a"], ()), (("a",), []), (("a",), (["a", "a"],)), (("a",),), (("a",), (), ()),
            (("b", "a"), ()), (("a", "a"), ()), (("a", "b"), (("b", "a"),)), (("a",), (("a", "b"),)),
            (("a", "b"), (("b", "b"), ("a", "b"))), (("a", "b"), (("a", "b"), ("a", "b"))), ("ab", ()),
            (("a",), (("a",),)), (("a",), (("a", "a", "a"),)), (("a",), ("aa",)), (("a", ""), ()), (("A",), ()),
            (("a\n",), ()), (("abcdefghijk",), ()), ((1,), ()), ((True,), ()), ((None,), ()), (None, ()), ((), None),
            ((("a",),), ()), (("a",), (("a", None),)), (("a",), (("a", ["a"]),)), (("a",), (({}, "a"),)),
        )
        for thing in wrong + ODD:
            self.assertIs(thing == EMPTY and type(thing) is tuple, both_ways("is_table", thing), thing)

    def test_each_letter_and_each_other_character(self):
        for code in range(32, 127):
            self.assertIs(chr(code) in LETTERS, is_table(((chr(code),), ())), chr(code))
            self.assertIs(chr(code) in LETTERS, is_table((("a" + chr(code),), ())), chr(code))

    def test_lengths_of_words(self):
        for many in range(14):
            self.assertIs(1 <= many <= 10, is_table((("q" * many,), ())), many)

    def test_variants(self):
        for table in (CELLS, EMPTY, LOOP, LONG):
            for thing in variants(table):
                self.assertIs(is_table_by_words(thing), is_table(thing), thing)

    def test_variants_of_variants(self):
        chance = random.Random(1)
        for thing in chance.sample(variants(LONG), 60) + [CELLS[:1] + ((("add", "add"), ("add", "set")),)]:
            if isinstance(thing, tuple):
                for other in variants(thing):
                    self.assertIs(is_table_by_words(other), is_table(other), other)

    def test_conflicts(self):
        for table in TABLES:
            for one, other in product(table[0], table[0]):
                expected = tuple(sorted((one, other))) in table[1]
                if len(table[0]) < 5 or one < "b":
                    self.assertIs(expected, both_ways("does_conflict", table, one, other))

    def test_texts(self):
        self.assertEqual("kinds", both_ways("table_text", EMPTY))
        self.assertEqual("kinds a\nconflict a a", both_ways("table_text", LOOP))
        self.assertEqual("kinds b c", both_ways("table_text", (("b", "c"), ())))
        for table in TABLES + tuple(small_tables()):
            text = both_ways("table_text", table)
            self.assertEqual(table, both_ways("read_table", text))
            self.assertEqual(1 + len(table[1]), text.count("\n") + 1)

    def test_coarser(self):
        tables = small_tables()
        for table, other in product(tables, tables):
            expected = table[0] == other[0] and set(other[1]) <= set(table[1])
            self.assertIs(expected, both_ways("is_coarser", table, other))
        self.assertIs(True, both_ways("is_coarser", (MANY, PAIRS), (MANY, ())))
        self.assertIs(False, both_ways("is_coarser", (MANY, ()), (MANY, PAIRS)))

    def test_all_conflicts(self):
        self.assertEqual(EMPTY, both_ways("all_conflicts", EMPTY))
        self.assertEqual(LOOP, both_ways("all_conflicts", (("a",), ())))
        self.assertEqual((MANY, PAIRS), both_ways("all_conflicts", (MANY, ())))
        self.assertEqual((MANY, PAIRS), both_ways("all_conflicts", (MANY, PAIRS)))
        self.assertEqual(666, len(PAIRS))

    def test_without(self):
        self.assertEqual((("a",), ()), both_ways("without", LOOP, "a", "a"))
        for table in (CELLS, LONG):
            for one, other in table[1]:
                left = tuple([pair for pair in table[1] if pair != (one, other)])
                self.assertEqual((table[0], left), both_ways("without", table, one, other))
                self.assertEqual((table[0], left), both_ways("without", table, other, one))


class TestTexts(unittest.TestCase):
    def test_values_that_are_no_string(self):
        for thing in ODD + (CELLS, ["kinds"], ("kinds",), b"kinds"):
            if not isinstance(thing, str):
                raises(self, "BadLine", 0, "read_table", thing)

    def test_wrong_lines(self):
        good = table_text(CELLS)
        lines = good.split("\n")
        for text, at in (
            ("", 1), ("\n", 1), (" ", 1), ("kinds ", 1), (" kinds", 1), ("kinds  a", 1), ("kinds a ", 1), ("Kinds", 1),
            ("kinds\n", 2), ("kinds a\n", 2), ("kinds a\n\n", 2), ("\nkinds", 1), ("kinds a a", 1), ("kinds b a", 1),
            ("kinds A", 1), ("kinds a,b", 1), ("kinds abcdefghijk", 1), ("kinds\ta", 1), ("kind a", 1), ("kindsa", 1),
            ("kinds a\r", 1), ("kinds a\r\nconflict a a", 1), ("kinds a\x0bconflict a a", 1), ("kinds a\nkinds a", 2),
            ("kinds a\nconflict", 2), ("kinds a\nconflict a", 2), ("kinds a\nconflict a a a", 2),
            ("kinds a\nconflict  a a", 2), ("kinds a\nconflict a  a", 2), ("kinds a\nconflict a a ", 2),
            ("kinds a\n conflict a a", 2), ("kinds a\nconflict a b", 2), ("kinds a\nconflict b a", 2),
            ("kinds a\nconflict a a\nconflict a a", 3), ("kinds a\nconflict a a\n", 3), ("conflict a a", 1),
            ("kinds a b\nconflict b b\nconflict a b", 3), ("kinds a b\nconflict a b\nconflict b a", 3),
            ("kinds a\n\nconflict a a", 2), ("kinds a\nconflict a a\n\n", 3), ("kinds a\nConflict a a", 2),
            ("\n".join(lines[1:]), 1), ("\n".join(lines[:2] + lines[1:]), 3), ("\n".join(lines + lines[-1:]), 6),
            ("\n".join(lines + ["conflict add add"]), 6), ("\n".join(lines[:3] + ["x"] + lines[3:]), 4), (good + "\n", 6),
            ("\n".join([lines[0], lines[2], lines[1]]), 3), (good + " ", 5), ("\n" + good, 1), (good + "\nkinds", 6),
        ):
            raises(self, "BadLine", at, "read_table", text)

    def test_missing_conflicts_are_other_tables(self):
        lines = table_text(CELLS).split("\n")
        for at in range(1, len(lines)):
            left = CELLS[1][:at - 1] + CELLS[1][at:]
            self.assertEqual((CELLS[0], left), read_table("\n".join(lines[:at] + lines[at + 1:])))

    def test_each_small_text(self):
        tables = small_tables()
        known = {tuple(table_text(table).split("\n")): table for table in tables}
        begun = {lines[:many] for lines in known for many in range(len(lines) + 1)}
        pool = [
            "kinds", "kinds a", "kinds b", "kinds a b", "kinds b a", "conflict a a", "conflict a b", "conflict b a",
            "conflict b b", "conflict a", "conflict", "conflict a b b", "",
        ]
        for many in range(1, 5):
            for lines in product(pool, repeat=many):
                if lines in known:
                    self.assertEqual(known[lines], read_table("\n".join(lines)))
                else:
                    wrong = min([at for at in range(1, many + 1) if lines[:at] not in begun])
                    with self.assertRaises(Exception) as caught:
                        read_table("\n".join(lines))
                    self.assertEqual(wrong, caught.exception.at, lines)

    def test_one_character_more_or_less(self):
        for table in (CELLS, LONG, EMPTY):
            text = table_text(table)
            for at in range(len(text) + 1):
                for sign in (" ", "\n", "a", "A", "~"):
                    self.check_text(text[:at] + sign + text[at:])
                    self.check_text(text[:at] + sign + text[at + 1:])
                self.check_text(text[:at] + text[at + 1:])

    def check_text(self, text):
        try:
            table = read_table(text)
        except Exception as error:
            self.assertEqual("BadLine", type(error).__name__)
            at = error.at
            lines = text.split("\n")
            self.assertIn(at, range(1, len(lines) + 1))
            if at > 1:
                read_table("\n".join(lines[:at - 1]))
        else:
            self.assertTrue(is_table_by_words(table))
            self.assertEqual(text, table_text(table))


class TestWrongArguments(unittest.TestCase):
    def test_no_table(self):
        for thing in ODD + tuple(variants(LOOP)):
            if is_table_by_words(thing):
                continue
            raises(self, "BadTable", thing, "does_conflict", thing, "a", "a")
            raises(self, "BadTable", thing, "table_text", thing)
            raises(self, "BadTable", thing, "all_conflicts", thing)
            raises(self, "BadTable", thing, "without", thing, "a", "a")
            raises(self, "BadTable", thing, "is_coarser", thing, CELLS)
            raises(self, "BadTable", thing, "is_coarser", CELLS, thing)

    def test_no_kind(self):
        for thing in ODD + ("ad", "addd", "ADD"):
            for name in ("does_conflict", "without"):
                raises(self, "BadKind", thing, name, CELLS, thing, "add")
                raises(self, "BadKind", thing, name, CELLS, "add", thing)
                raises(self, "BadKind", thing, name, EMPTY, thing, thing)

    def test_no_conflict(self):
        raises(self, "BadPair", ("add", "add"), "without", CELLS, "add", "add")
        raises(self, "BadPair", ("b", "c"), "without", (("b", "c"), ()), "c", "b")
        raises(self, "BadPair", ("b", "c"), "without", (("b", "c"), ()), "b", "c")

    def test_first_error(self):
        bad, worse = [CELLS], {"no": "table"}
        for name in ("does_conflict", "without"):
            raises(self, "BadTable", bad, name, bad, None, worse)
            raises(self, "BadKind", bad, name, CELLS, bad, worse)
            raises(self, "BadKind", "x", name, CELLS, "x", "y")
            raises(self, "BadKind", worse, name, CELLS, "add", worse)
        raises(self, "BadTable", bad, "is_coarser", bad, worse)

    def test_kinds_come_before_the_pair(self):
        raises(self, "BadKind", "no", "without", (("b", "c"), ()), "b", "no")


if __name__ == "__main__":
    unittest.main()
