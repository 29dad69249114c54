"""Orders of items of which some must come before others, and rings, which have none."""


def settled(before):
    """The items in an order in which each comes after all that must be before it, as far as there is one.

    before has for each item those that must be before it, perhaps also some that are no items.
    """
    order = {}
    ready = list(before)
    while ready:
        ready = [item for item in before if item not in order and all([one in order for one in before[item]])]
        for item in ready:
            order[item] = True
    return tuple(order)


def trail(before, order, start):
    """From an item that is not settled to one such before it, and so on, until one occurs again or is no item."""
    found = [start]
    while found[-1] in before and found[-1] not in found[:-1]:
        found.append([one for one in before[found[-1]] if one not in order][0])
    return tuple(found)
