"""The errors of all parts. Each one keeps what it was given as an attribute."""


class CutError(Exception):
    """The base class of all errors of this package."""


class BadTable(CutError):
    """A value is not a conflict table."""

    def __init__(self, thing):
        self.thing = thing


class BadKind(CutError):
    """A value is not a kind of the table or sort."""

    def __init__(self, thing):
        self.thing = thing


class BadPair(CutError):
    """Two kinds do not conflict, or they commute, where the call needs the other."""

    def __init__(self, thing):
        self.thing = thing


class BadLine(CutError):
    """A line of a text of a table is wrong; 0 for a value that is not a string."""

    def __init__(self, at):
        self.at = at


class BadHistory(CutError):
    """A value is not a history for the table."""

    def __init__(self, thing):
        self.thing = thing


class BadTransaction(CutError):
    """A value is not a transaction, or not one that can do this now."""

    def __init__(self, thing):
        self.thing = thing


class BadCut(CutError):
    """A value is not a cut."""

    def __init__(self, thing):
        self.thing = thing


class BadOrder(CutError):
    """A value is not an order of the transactions that are meant."""

    def __init__(self, thing):
        self.thing = thing


class BadWord(CutError):
    """A value is not a word of the history."""

    def __init__(self, thing):
        self.thing = thing


class BadSteps(CutError):
    """A value is not a tuple of rewritings that apply one after another."""

    def __init__(self, thing):
        self.thing = thing


class BadStore(CutError):
    """A value is not a store that fits."""

    def __init__(self, thing):
        self.thing = thing


class BadPrograms(CutError):
    """A value is not programs for the table."""

    def __init__(self, thing):
        self.thing = thing


class BadSort(CutError):
    """A value is not a sort."""

    def __init__(self, thing):
        self.thing = thing


class BadState(CutError):
    """A value is not a state of the sort."""

    def __init__(self, thing):
        self.thing = thing


class BadRun(CutError):
    """A value is not a run, or a step of it is not possible."""

    def __init__(self, thing):
        self.thing = thing


class NotRight(CutError):
    """A history is not right at every cut; the certificate shows it."""

    def __init__(self, certificate):
        self.certificate = certificate


class NotStrict(CutError):
    """A history is not strict."""


class IsRight(CutError):
    """A history is right at the cut p."""

    def __init__(self, p):
        self.p = p


class BadRow(CutError):
    """A value is not a log row."""

    def __init__(self, thing):
        self.thing = thing


class BadText(CutError):
    """A value is not the text of what is read."""

    def __init__(self, thing):
        self.thing = thing


class BadDevice(CutError):
    """A value is not a device, or not a clean one where one is needed."""

    def __init__(self, thing):
        self.thing = thing


class BadLost(CutError):
    """A value is not a tuple of sectors that can be lost."""

    def __init__(self, thing):
        self.thing = thing


class BadPages(CutError):
    """A value is not pages, or not chained ones where such are needed."""

    def __init__(self, thing):
        self.thing = thing


class BadKey(CutError):
    """A value is not a key."""

    def __init__(self, thing):
        self.thing = thing


class BadWorth(CutError):
    """A value is not a worth."""

    def __init__(self, thing):
        self.thing = thing


class BadNumber(CutError):
    """A value is not a number, or not the numbers, that the call needs."""

    def __init__(self, thing):
        self.thing = thing


class BadOperation(CutError):
    """A value is not an operation that can be asked for."""

    def __init__(self, thing):
        self.thing = thing


class BadOp(CutError):
    """A value is not an active op, or not one that can do this now."""

    def __init__(self, thing):
        self.thing = thing


class BadEnd(CutError):
    """A value is not an end with which the transaction can end now."""

    def __init__(self, thing):
        self.thing = thing


class BadEngine(CutError):
    """A value is not an engine."""

    def __init__(self, thing):
        self.thing = thing


class BadStep(CutError):
    """A value is not a step that is possible."""

    def __init__(self, thing):
        self.thing = thing


class NotShown(CutError):
    """A run does not show the key with the worth."""

    def __init__(self, key):
        self.key = key


class Down(CutError):
    """The engine is down."""


class Up(CutError):
    """The engine is up."""


class NothingToUndo(CutError):
    """No step is left to undo."""


class NothingToRedo(CutError):
    """No step is left to redo."""
