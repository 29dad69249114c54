import random
import unittest
from itertools import product

from eachcut.disks import is_content, is_row
from eachcut.errors import CutError
from eachcut.records import (
    applied, are_chained, are_pages, new_pages, place_of, worth_of, worths_on, writes_for,
)
from helper import (
    NO_WORDS, ODD, EngineByWords, both_ways, drawn_lives, error_of, is_key_by_words, is_natural_by_words,
    pages_by_words, raises, rejects, run_examples, variants,
)

NEW = ((0, ("", (), None)),)
FULL = ((1, ("", (("a", 1), ("c", 2), ("e", 3)), None)),)
# The chain is 0, 3, 1; page 2 is used but not in it, and page 4 is not used.
CHAIN = (
    (9, ("", (("a", 5),), 3)), (4, ("m", (("m", 1), ("n", -2), ("z", 3)), None)), (2, ("c", (("d", 7),), None)),
    (7, ("d", (), 1)), (0, None),
)
TEN = "abcdefghij"

EXAMPLES = r"""
>>> from eachcut.records import applied, are_chained, new_pages, place_of, worth_of, worths_on, writes_for
>>> FULL = ((1, ("", (("a", 1), ("c", 2), ("e", 3)), None)),)
>>> [writes_for(FULL, "b", 5, ()), writes_for(FULL, "c", 0, ()), writes_for(FULL, "a", 1, ()), writes_for(FULL, "b", 5, (1,))[0][0]]
[((1, ('c', (('c', 2), ('e', 3)), None)), (0, ('', (('a', 1), ('b', 5)), 1))), ((0, ('', (('a', 1), ('e', 3)), None)),), (), 2]
>>> SPLIT = applied(applied(FULL, 2, ("page", 7, 1, None, ("c", (("c", 2), ("e", 3)), None))), 3, ("page", 7, 0, FULL[0][1], ("", (("a", 1), ("b", 5)), 1)))
>>> [SPLIT, place_of(SPLIT, "d"), worths_on(SPLIT), worth_of(SPLIT, "d"), applied(SPLIT, 3, ("unpage", 7, 0, None)) == SPLIT]
[((3, ('', (('a', 1), ('b', 5)), 1)), (2, ('c', (('c', 2), ('e', 3)), None))), 1, (('a', 1), ('b', 5), ('c', 2), ('e', 3)), 0, True]
"""


def are_pages_by_words(thing):
    if type(thing) is not tuple or thing == ():
        return False
    if any(type(page) is not tuple or len(page) != 2 for page in thing):
        return False
    return all(is_natural_by_words(last) and is_content(content) for last, content in thing)


def chain_by_words(pages):
    """The numbers of the pages in the chain, None if pages are not chained: followed as far as they can be."""
    found, n, low = [], 0, None
    while True:
        if n not in range(len(pages)) or pages[n][1] is None:
            return None
        here, entries, behind = pages[n][1]
        if low is None and here != "" or low is not None and here <= low:
            return None
        found.append(n)
        if behind is None:
            return found
        if behind not in range(len(pages)) or pages[behind][1] is None:
            return None
        if any(key >= pages[behind][1][0] for key, _ in entries):
            return None
        n, low = behind, here


def worths_by_words(pages):
    return {key: worth for n in chain_by_words(pages) for key, worth in pages[n][1][1]}


def place_by_words(pages, key):
    return max([(pages[n][1][0], n) for n in chain_by_words(pages) if pages[n][1][0] <= key])[1]


def writes_by_words(pages, key, worth, reserved):
    """The definition of the writes, with the entries as a dict."""
    if worths_by_words(pages).get(key, 0) == worth:
        return ()
    p = place_by_words(pages, key)
    low, entries, behind = pages[p][1]
    fresh = {**dict(entries), key: worth}
    fresh = tuple([(other, fresh[other]) for other in sorted(fresh) if fresh[other] != 0])
    if len(fresh) < 4:
        return ((p, (low, fresh, behind)),)
    used = [n for n, page in enumerate(pages) if page[1] is not None] + list(reserved)
    m = min(set(range(len(pages) + len(reserved) + 1)) - set(used))
    return (m, (fresh[2][0], fresh[2:], behind)), (p, (low, fresh[:2], m))


def applied_by_words(pages, number, row):
    """The definition, with the pages as a dict."""
    found = dict(enumerate(pages))
    if row[0] in ("page", "unpage") and found.get(row[2], (0, None))[0] < number:
        found[row[2]] = (number, row[4] if row[0] == "page" else row[3])
    return tuple([found.get(n, (0, None)) for n in range(max(found) + 1)])


def with_writes(pages, writes):
    for number, (n, content) in enumerate(writes, start=max([last for last, _ in pages]) + 1):
        pages = applied(pages, number, ("page", 0, n, None, content))
    return pages


def drawn_pages(chance):
    """Chained pages that come from drawn writes, sometimes with one that is used and not in the chain."""
    pages = new_pages()
    for _ in range(chance.randint(0, 14)):
        reserved = tuple(sorted(chance.sample(range(6), chance.choice((0, 0, 1, 2)))))
        writes = writes_for(pages, chance.choice("abcdefghijkl"), chance.randint(-1, 2), reserved)
        pages = with_writes(pages, writes[:chance.choice((1, 2, 2, 2, 2))])
    return pages


class TestPages(unittest.TestCase):
    def test_examples(self):
        run_examples(self, EXAMPLES)

    def check_pages(self, pages):
        """Tests what is read off pages; returns whether they are chained."""
        self.assertIs(True, are_pages_by_words(pages))
        self.assertIs(True, both_ways("are_pages", pages))
        chain = chain_by_words(pages)
        self.assertIs(chain is not None, both_ways("are_chained", pages), pages)
        if chain is None:
            raises(self, "BadPages", pages, "worths_on", pages)
            for name, rest in (("place_of", ()), ("worth_of", ()), ("writes_for", (0, ()))):
                raises(self, "BadPages", pages, name, pages, "a", *rest)
                raises(self, "BadPages", pages, name, pages, None, *[None] * len(rest))
            return False
        worths = worths_by_words(pages)
        self.assertEqual(tuple(sorted(worths.items())), both_ways("worths_on", pages))
        for key in ("a", "b", "cc", "d", "e", "m", "n", "zz", "zzzzzzzzz"):
            self.assertEqual(place_by_words(pages, key), both_ways("place_of", pages, key))
            self.assertEqual(worths.get(key, 0), both_ways("worth_of", pages, key))
        return True

    def test_named_pages(self):
        for pages in (NEW, FULL, CHAIN):
            self.assertIs(True, self.check_pages(pages))
        self.assertEqual(NEW, both_ways("new_pages"))
        self.assertEqual((("a", 5), ("m", 1), ("n", -2), ("z", 3)), both_ways("worths_on", CHAIN))
        for key, n in (("a", 0), ("b", 0), ("c", 0), ("czzz", 0), ("d", 3), ("dd", 3), ("lz", 3), ("m", 1), ("zzz", 1)):
            self.assertEqual(n, both_ways("place_of", CHAIN, key), key)
        # The entry on page 2 does not count.
        self.assertEqual(0, both_ways("worth_of", CHAIN, "d"))

    def test_not_chained(self):
        page = CHAIN[0][1]
        for content in (
            None, ("a", (("a", 5),), 3), ("", (("a", 5),), 5), ("", (("a", 5),), 4), ("", (("a", 5),), 10 ** 39),
            ("", (), 0),
            ("", (("d", 5),), 3), ("", (("dd", 5),), 3), ("", (("a", 5),), 2),
        ):
            pages = ((9, content),) + CHAIN[1:]
            self.assertIs(content == ("", (("a", 5),), 2), self.check_pages(pages), content)
        for content, good in (
            (("d", (), 0), False), (("d", (), 3), False), (("m", (), 1), False), (("n", (), 1), False),
            (("lz", (), 1), True),
            (("d", (("lz", 1),), 1), True), (("d", (("m", 1),), 1), False), (("d", (("z", 1),), None), True),
            (("b", (), 2), True), (("c", (), 2), False), (("a", (), 1), False),
        ):
            pages = ((9, page), CHAIN[1], CHAIN[2], (7, content), (0, None))
            self.assertIs(good, self.check_pages(pages), content)
        self.assertIs(False, both_ways("are_chained", ((0, None),)))
        self.assertIs(False, both_ways("are_chained", ((0, None),) + FULL))

    def test_drawn_pages(self):
        found = []
        for seed in range(200):
            chance = random.Random(seed)
            pages = drawn_pages(chance)
            self.assertIs(True, self.check_pages(pages))
            found.append(len(chain_by_words(pages)))
            n = chance.randrange(len(pages))
            changed = chance.choice(
                (None, ("", (), 1), ("d", (), None), ("b", (("b", 1), ("k", 2)), chance.randrange(5)))
            )
            self.check_pages(pages[:n] + ((5, changed),) + pages[n + 1:])
        self.assertLess(3, max(found))

    def test_variants_of_pages(self):
        for pages in (NEW, FULL, CHAIN):
            for thing in variants(pages):
                expected = are_pages_by_words(thing)
                self.assertIs(expected, are_pages(thing), thing)
                if expected:
                    self.assertIs(chain_by_words(thing) is not None, are_chained(thing), thing)


class TestWrites(unittest.TestCase):
    def check_writes(self, pages, key, worth, reserved):
        """Tests the writes, and what the worths are after each of them; returns how many there are."""
        writes = both_ways("writes_for", pages, key, worth, reserved)
        self.assertEqual(writes_by_words(pages, key, worth, reserved), writes, (pages, key, worth, reserved))
        before = worths_by_words(pages)
        after = {other: told for other, told in {**before, key: worth}.items() if told != 0}
        self.assertEqual(writes == (), after == before)
        for many in range(len(writes) + 1):
            now = with_writes(pages, writes[:many])
            self.assertIs(True, are_chained(now))
            self.assertEqual(after if many == len(writes) else before, dict(worths_on(now)))
        for n, content in writes[:-1]:
            self.assertNotIn(n, reserved)
            self.assertTrue(n >= len(pages) or pages[n][1] is None)
        return len(writes)

    def test_a_fourth_entry_at_each_place(self):
        for key, keys in (
            ("aa", ("a", "aa", "c", "e")), ("b", ("a", "b", "c", "e")), ("d", ("a", "c", "d", "e")),
            ("f", ("a", "c", "e", "f")),
        ):
            self.assertEqual(2, self.check_writes(FULL, key, 5, ()))
            (m, new), (p, old) = both_ways("writes_for", FULL, key, 5, ())
            self.assertEqual((1, 0, None, 1), (m, p, new[2], old[2]))
            self.assertEqual(new[0], new[1][0][0])
            self.assertEqual((keys[:2], keys[2:]), (tuple(dict(old[1])), tuple(dict(new[1]))))
        first = ((1, ("", (("b", 1), ("c", 2), ("e", 3)), None)),)
        self.assertEqual(2, self.check_writes(first, "a", 5, ()))
        self.assertEqual(
            ((1, ("c", (("c", 2), ("e", 3)), None)), (0, ("", (("a", 5), ("b", 1)), 1))),
            both_ways("writes_for", first, "a", 5, ()),
        )

    def test_splits_in_the_chain(self):
        """The page that splits is the first, in the middle, or the last one; the new one leads on to its next."""
        expected = ((4, ("n", (("n", -2), ("z", 3)), None)), (1, ("m", (("m", 1), ("mm", 8)), 4)))
        self.assertEqual(expected, both_ways("writes_for", CHAIN, "mm", 8, ()))
        self.assertEqual(5, both_ways("writes_for", CHAIN, "mm", 8, (4,))[0][0])
        self.assertEqual(6, both_ways("writes_for", CHAIN, "mm", 8, (0, 4, 5, 7))[0][0])
        middle = CHAIN[:3] + ((7, ("d", (("e", 1), ("f", 2), ("g", 3)), 1)), (0, None))
        expected = ((4, ("f", (("f", 2), ("g", 3)), 1)), (3, ("d", (("d", 9), ("e", 1)), 4)))
        self.assertEqual(expected, both_ways("writes_for", middle, "d", 9, ()))
        for key in ("b", "d", "dd", "ee", "ff", "h", "l", "mm", "mz", "zz"):
            for reserved in ((), (4,), (5,), (4, 5), (0, 1, 2, 3), (4, 6)):
                self.check_writes(middle, key, 9, reserved)
        # Page 2 is used, although it is not in the chain; without it, it is the free one.
        self.assertEqual(2, both_ways("writes_for", middle[:2] + ((2, None),) + middle[3:], "dd", 1, ())[0][0])

    def test_other_writes(self):
        for key, worth, expected in (
            ("c", 0, ((0, ("", (("a", 1), ("e", 3)), None)),)), ("a", 1, ()), ("b", 0, ()), ("zz", 0, ()),
            ("c", 7, ((0, ("", (("a", 1), ("c", 7), ("e", 3)), None)),)),
            ("e", -3, ((0, ("", (("a", 1), ("c", 2), ("e", -3)), None)),)),
        ):
            self.assertEqual(expected, both_ways("writes_for", FULL, key, worth, ()))
            self.check_writes(FULL, key, worth, (3,))
        self.assertEqual(
            ((0, ("", (("zzzzzzzzz", 10 ** 39),), None)),), both_ways("writes_for", NEW, "zzzzzzzzz", 10 ** 39, ()),
        )
        self.assertEqual(((3, ("d", (("d", 2),), 1)),), both_ways("writes_for", CHAIN, "d", 2, ()))
        self.assertEqual(((0, ("", (), 3)),), both_ways("writes_for", CHAIN, "a", 0, ()))
        self.assertEqual((), both_ways("writes_for", CHAIN, "d", 0, ()))

    def test_drawn_writes(self):
        found = {}
        for seed in range(300):
            chance = random.Random(seed)
            pages = drawn_pages(chance)
            for _ in range(4):
                reserved = tuple(sorted(chance.sample(range(7), chance.randrange(4))))
                many = self.check_writes(pages, chance.choice("abcdefghijkl"), chance.randint(-1, 2), reserved)
                found[many] = found.get(many, 0) + 1
        self.assertEqual([0, 1, 2], sorted(found))
        self.assertLess(30, found[2])


class TestRows(unittest.TestCase):
    def test_each_row(self):
        content = ("b", (("b", 1),), None)
        for pages, number, row in product(
            (NEW, FULL, CHAIN, ((3, None),), ((5, content),)), (1, 2, 3, 4, 5, 9, 10, 10 ** 39),
            (
                ("page", 0, 0, None, content), ("page", 0, 1, content, None), ("page", 3, 6, None, content),
                ("unpage", 0, 0, content), ("unpage", 0, 2, None), ("unpage", 0, 7, None), ("start", 0),
                ("end", 0, "kept"),
                ("op", 1, 1, ("set", "a", 1, 2)), ("comp", 1, 2, 0),
            ),
        ):
            expected = applied_by_words(pages, number, row)
            self.assertEqual(expected, both_ways("applied", pages, number, row), (pages, number, row))
            again = both_ways("applied", expected, number, row)
            self.assertEqual(expected, again)

    def test_ordinary(self):
        content = ("", (("a", 1),), None)
        self.assertEqual(((1, content),), both_ways("applied", NEW, 1, ("page", 0, 0, NEW[0][1], content)))
        self.assertEqual(NEW + ((0, None), (1, content)), both_ways("applied", NEW, 1, ("page", 0, 2, None, content)))
        self.assertEqual(((2, None),), both_ways("applied", ((1, content),), 2, ("unpage", 0, 0, None)))
        self.assertEqual(((2, content),), both_ways("applied", ((2, content),), 2, ("unpage", 0, 0, None)))
        self.assertEqual(NEW, both_ways("applied", NEW, 1, ("start", 0)))

    def test_pages_of_any_age(self):
        """[11.4]: pages that are applied up to their own number or further come to the same."""
        chance = random.Random(4)
        sizes = []
        for run in drawn_lives(40):
            model = EngineByWords()
            for step in run:
                model.take(step)
            rows = model.rows()
            ends = [pages_by_words(rows[:p]) for p in range(len(rows) + 1)]
            sizes.append(len(ends[-1]))
            for _ in range(4):
                mixed = []
                for n in range(len(ends[-1])):
                    ages = [pages[n] for pages in ends if n < len(pages)]
                    mixed.append(chance.choice(ages + [((0, ("", (), None)) if n == 0 else (0, None))]))
                # Of those that exist, some at the end may be missing.
                while len(mixed) > 1 and mixed[-1] == (0, None) and chance.random() < 0.5:
                    mixed.pop()
                pages = tuple(mixed)
                for _ in range(2):
                    for number, row in enumerate(rows, start=1):
                        pages = applied(pages, number, row)
                    self.assertEqual(ends[-1], pages)
        self.assertLess(2, max(sizes))


class TestWrongValues(unittest.TestCase):
    def test_no_pages(self):
        for thing in ODD + (
            ((0, ("", (), None), 0),), ((0,),), (0, None), [NEW[0]], ([0, None],), ((True, None),), ((-1, None),),
            (("0", None),),
            ((0, ()),), ((0, ["", (), None]),), ((0, ("", (), -1)),), ((0, ("", (("a", 0),), None)),), NEW + (None,),
            CutError(),
        ):
            self.assertIs(False, are_pages_by_words(thing), thing)
            self.assertIs(False, both_ways("are_pages", thing), thing)
            for name, rest in (
                ("are_chained", ()), ("place_of", (None,)), ("worth_of", (None,)), ("worths_on", ()),
                ("writes_for", (None, None, None)), ("applied", (None, None)),
            ):
                raises(self, "BadPages", thing, name, thing, *rest)

    def test_no_key(self):
        for thing in NO_WORDS + (TEN, None, 1, ("a",), ["a"], b"a"):
            if not is_key_by_words(thing):
                for name, rest in (("place_of", ()), ("worth_of", ()), ("writes_for", (None, None))):
                    raises(self, "BadKey", thing, name, NEW, thing, *rest)

    def test_each_argument(self):
        chained = ("BadPages", lambda thing: are_pages_by_words(thing) and chain_by_words(thing) is not None)
        key, worth = ("BadKey", is_key_by_words), ("BadWorth", lambda thing: type(thing) is int)
        row = ("BadRow", lambda thing: is_row(thing) and (thing[0] not in ("page", "unpage") or thing[2] < 10 ** 9))
        number = ("BadNumber", lambda thing: type(thing) is int and thing > 0)
        self.assertIs(True, is_row(("page", 1, 0, None, None)))
        for name in ("place_of", "worth_of"):
            rejects(self, name, (CHAIN, "dd"), (chained, key))
        rejects(self, "worths_on", (CHAIN,), (chained,))
        rejects(self, "are_chained", (CHAIN,), (("BadPages", are_pages_by_words),))
        rejects(self, "writes_for", (FULL, "b", 5, (1, 3)), (chained, key, worth, ("BadNumber", self.are_numbers)))
        good = row[1]
        rejects(
            self, "applied", (FULL, 2, ("end", 4, "kept")),
            (("BadPages", are_pages_by_words), number, ("BadRow", good)),
        )

    def are_numbers(self, thing):
        if type(thing) is not tuple or not all(is_natural_by_words(part) for part in thing):
            return False
        return sorted(set(thing)) == list(thing)

    def test_no_reserved_numbers(self):
        for thing in (
            (1, 1), (2, 1), (-1,), (True,), (0, True), [1], ("1",), (1, None), ((1,),), {1: 2}, 1, None, (1.0,),
        ):
            raises(self, "BadNumber", thing, "writes_for", FULL, "a", 1, thing)
        self.assertEqual((), writes_for(FULL, "a", 1, (0, 5, 10 ** 39)))

    def test_no_number(self):
        for thing in (0, -1, True, None, "1", (1,), [1], 1.0):
            raises(self, "BadNumber", thing, "applied", FULL, thing, None)
        raises(self, "BadRow", ("start",), "applied", FULL, 1, ("start",))
        self.assertEqual(("BadPages", {"thing": ()}), error_of(applied, (), 0, None))

    def test_same_call_twice(self):
        self.assertEqual(writes_for(FULL, "b", 1, ()), writes_for(FULL, "b", 1, ()))
        self.assertEqual(new_pages(), new_pages())
        self.assertEqual(place_of(CHAIN, "n"), place_of(CHAIN, "n"))
        self.assertEqual(worth_of(CHAIN, "n"), worth_of(CHAIN, "n"))


if __name__ == "__main__":
    unittest.main()
