"""Which steps of a history conflict."""


def foes_of(table):
    """For each kind of a table the kinds that it conflicts with."""
    foes = {kind: {} for kind in table[0]}
    for one, other in table[1]:
        foes[one][other] = True
        foes[other][one] = True
    return foes


def rivals_of(table, history):
    """For each step of a history all other steps that it conflicts with, in ascending order."""
    foes = foes_of(table)
    steps = [(i, event[1], event[2]) for i, event in enumerate(history) if event[0] == "do"]
    rivals = {}
    for i, t, kind in steps:
        against = foes[kind]
        rivals[i] = {j: True for j, u, other in steps if j != i and (u == t or other in against)}
    return rivals


def pairs_into(record, rivals, u):
    """The conflicting steps (i, j), i before j, i of another transaction and j of u."""
    return [(i, j) for j in record.steps[u] for i in rivals[j] if i < j and record.owners[i] != u]


def pairs_waiting(record, rivals, u):
    """Those of the pairs into u of which neither step is taken back, and the first one's transaction is not kept."""
    found = []
    for i, j in pairs_into(record, rivals, u):
        if i not in record.taken and j not in record.taken and record.ends.get(record.owners[i]) != "keep":
            found.append((i, j))
    return found
