"""What the rows of a log say to an engine that comes up."""

from eachcut.disks import mended, with_row
from eachcut.records import after_row, new_pages, with_page


def transactions_in(rows):
    """The transactions of the rows of a log, as the keys of a dict."""
    return {row[1]: True for row in rows if row[0] in ("start", "op", "comp", "end")}


def ops_in(rows):
    """The ops of the rows of a log."""
    changes = [row[1] for row in rows if row[0] in ("page", "unpage")]
    return changes + [row[2] for row in rows if row[0] in ("op", "comp")]


def undo_rows(rows):
    """The "unpage" rows that take back what unfinished ops have written, from the last write to the first."""
    finished = {row[2]: True for row in rows if row[0] in ("op", "comp")}
    # How many writes of each op are taken back already: these are its last ones.
    taken = {}
    for row in rows:
        if row[0] == "unpage":
            taken[row[1]] = taken.get(row[1], 0) + 1
    found = []
    for row in reversed(rows):
        if row[0] != "page" or row[1] in finished:
            continue
        _, op, n, before, _ = row
        if taken.get(op, 0) > 0:
            taken[op] -= 1
        else:
            found.append(("unpage", op, n, before))
    return tuple(found)


def pages_after(disk, rows):
    """The pages that the pages on a disk and the rows of a log lead to."""
    pages = new_pages()
    for n, page in disk:
        pages = with_page(pages, n, page)
    for number, row in enumerate(rows, start=1):
        pages = after_row(pages, number, row)
    return pages


def opened_after(rows):
    """For each transaction that has not ended its state after a fall, and its done ops with their operations."""
    opened = {}
    for row in rows:
        if row[0] == "start":
            opened[row[1]] = ("dropping", ())
        elif row[0] == "op":
            _, t, op, operation = row
            opened[t] = ("dropping", opened[t][1] + ((op, operation),))
        elif row[0] == "comp":
            _, t, _, back = row
            opened[t] = ("dropping", tuple([pair for pair in opened[t][1] if pair[0] != back]))
        elif row[0] == "end":
            del opened[row[1]]
    return opened


def device_amid(device, rows):
    """A device that is mended, and to which some rows are written since."""
    device = mended(device)
    for row in rows:
        device = with_row(device, row)
    return device
