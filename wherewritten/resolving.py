"""Resolving: which binding of a table an identifier refers to."""


def _is_included(small, large):
    for scope in small:
        if scope not in large:
            return False
    return True


def _is_in_one_of(table, at, others):
    for other in others:
        if _is_included(table[at][2], table[other][2]):
            return True
    return False


def _greatest(table, candidates):
    # A set can only be included in one that is at least as large, so the large ones come first.
    order = sorted([(-len(table[at][2]), at) for at in candidates])
    found = []
    for _, at in order:
        if not _is_in_one_of(table, at, found):
            found.append(at)
    return sorted(found)


def resolve(table, phase, identifier):
    """Return the outcome of resolving an identifier at a phase in a table."""
    name, scopes = identifier[1], identifier[3]
    candidates = []
    is_elsewhere = False
    for at, binding in enumerate(table):
        if binding[1] == name and _is_included(binding[2], scopes):
            if binding[0] == phase:
                candidates.append(at)
            else:
                is_elsewhere = True
    greatest = _greatest(table, candidates)
    if len(greatest) == 1:
        return ("bound", greatest[0])
    if greatest:
        return ("ambiguous", greatest[0], greatest[1])
    return ("phase",) if is_elsewhere else ("unbound",)


def same_binder(first, second):
    """Tell whether two identifiers are the same binder."""
    return first[1] == second[1] and first[3] == second[3]


def same_reference(table, phase, first, second):
    """Tell whether two identifiers are the same reference at a phase; None if it cannot be told."""
    one = resolve(table, phase, first)
    other = resolve(table, phase, second)
    if one[0] == "ambiguous" or other[0] == "ambiguous":
        return None
    if one[0] == "bound" and other[0] == "bound":
        return table[one[1]][3] == table[other[1]][3]
    if one[0] == "bound" or other[0] == "bound":
        return False
    return first[1] == second[1]


def judge_outcome(table, phase, identifier, told):
    """Tell whether a tuple of strings and numbers is the outcome of resolving."""
    # True equals 1 in Python, but is no number here.
    if any(isinstance(part, bool) for part in told):
        return False
    return told == resolve(table, phase, identifier)
