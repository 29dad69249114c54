"""What can be asked of an engine, which operations exclude each other, and what they come to."""

from eachcut.disks import is_shaped

# The names of what can be asked, and how many worths each one has.
REQUESTS = (("read", 0), ("set", 1), ("add", 1))


def is_request(thing):
    """Whether any value can be asked: an operation, but a "set" without the old worth."""
    return is_shaped(thing, REQUESTS)


def do_exclude(one, other):
    """Whether two operations, or requests, have one key and are neither both "read" nor both "add"."""
    return one[1] == other[1] and (one[0] != other[0] or one[0] == "set")


def operation_for(request, worth):
    """The operation for a request, when its key has a worth."""
    return request + (worth,) if request[0] == "set" else request


def worth_after(operation, worth):
    """What an operation makes of the worth of its key."""
    if operation[0] == "set":
        return operation[2]
    return worth + operation[2] if operation[0] == "add" else worth


def worth_without(operation, worth):
    """What the compensation of an operation makes of the worth of its key."""
    if operation[0] == "set":
        return operation[3]
    return worth - operation[2] if operation[0] == "add" else worth
