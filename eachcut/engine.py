"""A working engine on two levels, with pages, a log and restart."""

from eachcut.checks import is_natural
from eachcut.disks import cut, log_of, mended, with_row
from eachcut.errors import BadEnd, BadNumber, BadOp, BadOperation, BadTransaction, Down, Up
from eachcut.locks import do_exclude, is_request, operation_for, worth_after, worth_without
from eachcut.records import after_row, new_pages, worth_in, worths_in, writes_in
from eachcut.restarts import device_amid, opened_after, ops_in, pages_after, transactions_in, undo_rows


class Engine:
    """An engine; while it is down, it has no pages in memory, no open transactions and no active ops.

    _rows are those of the log of the device. _opened has for each open transaction (state, done), and
    _active for each active op (t, operation, back, pages, writes), as the methods without the underscore
    tell them.
    """

    def __init__(self):
        self._device = ((), 0)
        self._disk = ()
        self._rows = ()
        self._pages = new_pages()
        self._opened = {}
        self._active = {}

    def __eq__(self, other):
        return (
            isinstance(other, Engine) and self._device == other._device and self._disk == other._disk
            and self._pages == other._pages and self._opened == other._opened and self._active == other._active
        )

    def device(self):
        """The device with the log."""
        return self._device

    def disk(self):
        """The pairs (n, page) on the disk, in ascending order."""
        return self._disk

    def log(self):
        """The rows of the log."""
        return self._rows

    def is_up(self):
        """Whether the engine is up."""
        return self._pages is not None

    def pages(self):
        """The pages in memory."""
        self.check_up()
        return self._pages

    def worths(self):
        """The pairs of the keys and worths in memory, in ascending order."""
        self.check_up()
        return worths_in(self._pages)

    def opened(self):
        """The open transactions as tuples (t, state, done), in ascending order."""
        self.check_up()
        return tuple([(t,) + self._opened[t] for t in sorted(self._opened)])

    def active(self):
        """The active ops as tuples (op, t, operation, back, pages, writes), in ascending order."""
        self.check_up()
        return tuple([(op,) + self._active[op] for op in sorted(self._active)])

    def copied(self):
        """An equal engine that goes its own way."""
        other = Engine()
        other._device = self._device
        other._disk = self._disk
        other._rows = self._rows
        other._pages = self._pages
        other._opened = {t: self._opened[t] for t in self._opened}
        other._active = {op: self._active[op] for op in self._active}
        return other

    def start(self, t):
        """Starts a transaction with a number that the log does not know."""
        self.check_up()
        if not is_natural(t) or t in transactions_in(self._rows):
            raise BadTransaction(t)
        self._opened[t] = ("active", ())
        self.add_row(("start", t))

    def drop(self, t):
        """Begins to drop an active transaction."""
        state, done = self.idle(t)
        if state != "active":
            raise BadTransaction(t)
        self._opened[t] = ("dropping", done)

    def back(self, t):
        """Starts the compensation of the last done op of a dropping transaction, and returns the answer."""
        state, done = self.idle(t)
        if state != "dropping" or not done:
            raise BadTransaction(t)
        op, operation = done[-1]
        goal = worth_without(operation, worth_in(self._pages, operation[1]))
        return self.begin((t, None, op), operation[1], goal)

    def end(self, t, end):
        """Ends a transaction "kept", or "dropped" when all its ops are compensated."""
        state, done = self.idle(t)
        if end != ("kept" if state == "active" else "dropped") or (end == "dropped" and done):
            raise BadEnd(end)
        del self._opened[t]
        self.add_row(("end", t, end))
        if end == "kept":
            self.force()

    def ask(self, t, operation):
        """Starts an operation of an active transaction if nothing is in its way, and returns the answer."""
        if self.idle(t)[0] != "active":
            raise BadTransaction(t)
        if not is_request(operation):
            raise BadOperation(operation)
        holders = self.holders(t, operation)
        if holders:
            return "waits", holders
        worth = worth_in(self._pages, operation[1])
        full = operation_for(operation, worth)
        return self.begin((t, full, None), operation[1], worth_after(full, worth))

    def write(self, op):
        """Makes the first write that an active op has left."""
        t, operation, back, pages, writes = self.active_op(op)
        if not writes:
            raise BadOp(op)
        n, content = writes[0]
        before = self._pages[n][1] if n < len(self._pages) else None
        self._active[op] = (t, operation, back, pages, writes[1:])
        self.add_row(("page", op, n, before, content))

    def finish(self, op):
        """Finishes an active op without writes left, and returns the answer."""
        t, operation, back, _, writes = self.active_op(op)
        if writes:
            raise BadOp(op)
        state, done = self._opened[t]
        del self._active[op]
        if operation is None:
            # What is compensated is always the last done op.
            self._opened[t] = (state, done[:-1])
            self.add_row(("comp", t, op, back))
            return ("done",)
        self._opened[t] = (state, done + ((op, operation),))
        self.add_row(("op", t, op, operation))
        return ("worth", worth_in(self._pages, operation[1])) if operation[0] == "read" else ("done",)

    def force(self):
        """Makes all sectors of the device safe."""
        self.check_up()
        sectors, _ = self._device
        self._device = (sectors, len(sectors))

    def flush(self, n):
        """Forces the device, and copies a page to the disk."""
        self.check_up()
        if not is_natural(n) or n >= len(self._pages):
            raise BadNumber(n)
        self.force()
        self._disk = tuple(sorted([pair for pair in self._disk if pair[0] != n] + [(n, self._pages[n])]))

    def fall(self, lost):
        """Falls: only the disk is left, and the device without the lost sectors."""
        self.check_up()
        self.go_down(cut(self._device, lost))

    def come_up(self):
        """Comes up: takes back what unfinished ops have written; what is open is dropping."""
        self.check_down()
        rows = undo_rows(self._rows)
        self._device = mended(self._device)
        self._pages = pages_after(self._disk, self._rows)
        self._opened = opened_after(self._rows)
        for row in rows:
            self.add_row(row)

    def come_up_amid(self, k, lost):
        """Begins to come up, and falls again after k rows are written."""
        self.check_down()
        rows = undo_rows(self._rows)
        if not is_natural(k) or k > len(rows):
            raise BadNumber(k)
        self.go_down(cut(device_amid(self._device, rows[:k]), lost))

    def check_up(self):
        """Raises Down if the engine is down."""
        if not self.is_up():
            raise Down()

    def check_down(self):
        """Raises Up if the engine is up."""
        if self.is_up():
            raise Up()

    def go_down(self, device):
        """Loses what is kept only while the engine is up."""
        self._device = device
        self._rows = log_of(device)
        self._pages = None
        self._opened = {}
        self._active = {}

    def add_row(self, row):
        """Writes a row to the device, and applies it to the pages."""
        self._device = with_row(self._device, row)
        self._rows = self._rows + (row,)
        self._pages = after_row(self._pages, len(self._rows), row)

    def idle(self, t):
        """The state and the done ops of an open transaction without an active op; raises Down and BadTransaction."""
        self.check_up()
        if not is_natural(t) or t not in self._opened or t in [told[0] for told in self._active.values()]:
            raise BadTransaction(t)
        return self._opened[t]

    def active_op(self, op):
        """What is kept of an active op; raises Down and BadOp."""
        self.check_up()
        if not is_natural(op) or op not in self._active:
            raise BadOp(op)
        return self._active[op]

    def holders(self, t, operation):
        """The other open transactions that hold a lock against an operation, in ascending order."""
        locks = [(u, done[1]) for u, told in self._opened.items() for done in told[1]]
        # A compensation holds no further lock.
        locks = locks + [(told[0], told[1]) for told in self._active.values() if told[1] is not None]
        return tuple(sorted(set([u for u, held in locks if u != t and do_exclude(operation, held)])))

    def begin(self, told, key, goal):
        """Starts an op, of which told has (t, operation, back), that gives a key a worth; returns the answer."""
        reserved = [n for other in self._active.values() for n, _ in other[4]]
        writes = writes_in(self._pages, key, goal, reserved)
        pages = tuple([n for n, _ in writes])
        latched = [op for op, other in self._active.items() if [n for n in other[3] if n in pages]]
        if latched:
            return "latched", tuple(sorted(latched))
        op = max(ops_in(self._rows) + list(self._active), default=-1) + 1
        self._active[op] = told + (pages, writes)
        return "begun", op
