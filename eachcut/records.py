"""Records of worths on chained pages, the writes that change them, and the pages that log rows lead to."""

from eachcut.checks import is_ascending, is_integer, is_natural
from eachcut.disks import MOST_ENTRIES, is_content, is_key, is_row
from eachcut.errors import BadKey, BadNumber, BadPages, BadRow, BadWorth

NO_PAGE = (0, None)


def is_page(thing):
    """Whether any value is a pair of the number of a log row and a content."""
    return isinstance(thing, tuple) and len(thing) == 2 and is_natural(thing[0]) and is_content(thing[1])


def are_pages(thing):
    """Whether any value is pages."""
    return isinstance(thing, tuple) and len(thing) > 0 and all([is_page(page) for page in thing])


def may_follow(pages, chain, n):
    """Whether the page n can be the next one behind those of a chain, or the first one."""
    if n >= len(pages) or pages[n][1] is None:
        return False
    low = pages[n][1][0]
    if not chain:
        return low == ""
    before, entries, _ = pages[chain[-1]][1]
    return before < low and all([key < low for key, _ in entries])


def chain_of(pages):
    """The numbers of the pages in the chain, None for pages that are not chained."""
    chain, n = [], 0
    # The lows become ever greater, so no page comes twice.
    while n is not None:
        if not may_follow(pages, chain, n):
            return None
        chain.append(n)
        n = pages[n][1][2]
    return chain


def are_chained(pages):
    """Whether pages are chained."""
    if not are_pages(pages):
        raise BadPages(pages)
    return chain_of(pages) is not None


def check_chained(pages):
    """Raises BadPages for any value that is not chained pages."""
    if not are_pages(pages) or chain_of(pages) is None:
        raise BadPages(pages)


def check_key(key):
    """Raises BadKey for any value that is not a key."""
    if not is_key(key):
        raise BadKey(key)


def check_worth(worth):
    """Raises BadWorth for any value that is not a worth."""
    if not is_integer(worth):
        raise BadWorth(worth)


def place_in(pages, key):
    """The last page in the chain of chained pages whose low is at most a key."""
    return [n for n in chain_of(pages) if pages[n][1][0] <= key][-1]


def place_of(pages, key):
    """The last page in the chain whose low is at most a key."""
    check_chained(pages)
    check_key(key)
    return place_in(pages, key)


def worths_in(pages):
    """The pairs of the keys and worths in the chain of chained pages, in ascending order."""
    return tuple([entry for n in chain_of(pages) for entry in pages[n][1][1]])


def worths_on(pages):
    """The pairs of the keys and worths in the chain, in ascending order."""
    check_chained(pages)
    return worths_in(pages)


def worth_in(pages, key):
    """The worth of a key on chained pages, 0 without an entry."""
    return dict(worths_in(pages)).get(key, 0)


def worth_of(pages, key):
    """The worth of a key, 0 without an entry."""
    check_chained(pages)
    check_key(key)
    return worth_in(pages, key)


def free_page(pages, reserved):
    """The least number of a page that is not used or does not exist, and that is not reserved."""
    n = 0
    while n in reserved or (n < len(pages) and pages[n][1] is not None):
        n += 1
    return n


def writes_in(pages, key, worth, reserved):
    """The writes that give a key a worth on chained pages."""
    if worth_in(pages, key) == worth:
        return ()
    p = place_in(pages, key)
    low, entries, follower = pages[p][1]
    kept = [entry for entry in entries if entry[0] != key]
    fresh = tuple(sorted(kept + [(key, worth)] if worth != 0 else kept))
    if len(fresh) <= MOST_ENTRIES:
        return ((p, (low, fresh, follower)),)
    m = free_page(pages, reserved)
    # The new page comes first: until p leads to it, it does not count.
    return (m, (fresh[2][0], fresh[2:], follower)), (p, (low, fresh[:2], m))


def are_numbers(thing):
    """Whether any value is an ascending tuple of integers from 0 on."""
    return isinstance(thing, tuple) and all([is_natural(n) for n in thing]) and is_ascending(thing)


def writes_for(pages, key, worth, reserved):
    """The writes that give a key a worth, in order; reserved pages are not taken for them."""
    check_chained(pages)
    check_key(key)
    check_worth(worth)
    if not are_numbers(reserved):
        raise BadNumber(reserved)
    return writes_in(pages, key, worth, reserved)


def with_page(pages, n, page):
    """Pages with another page n, which may not exist yet."""
    longer = pages + (NO_PAGE,) * (n + 1 - len(pages))
    return longer[:n] + (page,) + longer[n + 1:]


def after_row(pages, number, row):
    """Pages after a log row with a number is applied."""
    if row[0] not in ("page", "unpage"):
        return pages
    n = row[2]
    if n < len(pages) and pages[n][0] >= number:
        return pages
    # The content to which the row leads stands last, in rows of both kinds.
    return with_page(pages, n, (number, row[-1]))


def applied(pages, number, row):
    """Pages after a log row with a number is applied; they need not be chained."""
    if not are_pages(pages):
        raise BadPages(pages)
    if not is_integer(number) or number < 1:
        raise BadNumber(number)
    if not is_row(row):
        raise BadRow(row)
    return after_row(pages, number, row)


def new_pages():
    """The pages of a new engine: an empty page 0."""
    return ((0, ("", (), None)),)
