"""Whether artifacts that compiling gives hang together: for tests of modules."""

from wherewritten.numbering import is_plain_item
from wherewritten.syntax import identifiers
from wherewritten.walking import parts_of_term, syntax_in, terms_in


def only_tuples(value):
    """Whether a value is made of tuples, numbers, texts, True, False and None."""
    left = [value]
    while left:
        part = left.pop()
        if type(part) is tuple:
            left.extend(part)
        elif type(part) not in (int, str, bool, type(None)):
            return False
    return True


def locals_are_right(term):
    """Whether each local variable is bound at one place, and used only inside of it."""
    bound = []
    for part in terms_in(term):
        if part[0] == "fn":
            bound.extend(part[1])
        elif part[0] == "rec":
            bound.extend(number for number, _ in part[1])
    if len(bound) != len(set(bound)):
        return False
    left = [(term, frozenset())]
    while left:
        part, known = left.pop()
        if part[0] == "local" and part[1] not in known:
            return False
        if part[0] == "fn":
            known = known | set(part[1])
        elif part[0] == "rec":
            known = known | {number for number, _ in part[1]}
        left.extend((inner, known) for inner in parts_of_term(part))
    return True


def how_deep(term):
    """How deep terms are in a term."""
    deepest, left = 0, [(term, 1)]
    while left:
        part, deep = left.pop()
        deepest = max(deepest, deep)
        left.extend((inner, deep + 1) for inner in parts_of_term(part))
    return deepest


def defined_in(artifact):
    """The targets that an artifact has items for."""
    name = artifact[1]
    return {({"def": "top", "mac": "macro"}[kind], name, level, k) for kind, level, k, _ in artifact[5] if kind != "expr"}


def targets_are_right(artifact, others):
    known = set(defined_in(artifact))
    for other in others.values():
        known |= defined_in(other)
    targets = [row[3] for row in artifact[4]] + [offer[2] for offer in artifact[3]]
    for item in artifact[5]:
        targets.extend(term[:4] for term in terms_in(item[3]) if term[0] == "top")
    for target in targets:
        if target[0] in ("top", "macro"):
            if target not in known:
                return False
        elif target[0] not in ("local", "own") or target[1] != artifact[1]:
            return False
    return True


def numbers_are_right(artifact):
    """Whether the variables and the macros of each level are counted from 0, in order."""
    told = {}
    for kind, level, k, _ in artifact[5]:
        if kind != "expr":
            if told.get((kind, level), 0) != k:
                return False
            told[(kind, level)] = k + 1
        elif k != 0:
            return False
    return True


def scopes_are_right(artifact):
    """Whether the scopes of the module come with the numbers from 0 on, in the order of point 44."""
    name, bindings, items = artifact[1], artifact[4], artifact[5]
    others = [item for item in items if not is_plain_item(item)]
    plain = [item for item in items if is_plain_item(item)]

    def sets(rows):
        return [one[3] for item in rows for syntax in syntax_in(item[3]) for one in identifiers(syntax)]

    def is_early(row):
        return row[3][0] in ("top", "macro") or any(set(row[2]) <= set(scopes) for scopes in sets(others))

    for row in bindings:
        if row[3][0] not in ("top", "macro") and not any(set(row[2]) <= set(scopes) for scopes in sets(items)):
            return False
    rows = [row[2] for row in bindings if is_early(row)] + sets(others)
    rows += [row[2] for row in bindings if not is_early(row)] + sets(plain)
    seen = []
    for scopes in rows:
        if list(scopes) != sorted(set(scopes)):
            return False
        for module, number, shift in scopes:
            if module == name and shift == 0 and number not in seen:
                if number != len(seen):
                    return False
                seen.append(number)
    return True


def is_in_order(artifact, others):
    """Whether an artifact hangs together; others are those that it was compiled with."""
    keys = [row[:3] for row in artifact[4]]
    offers = [offer[:2] for offer in artifact[3]]
    return (only_tuples(artifact) and all(locals_are_right(item[3]) and how_deep(item[3]) <= 220 for item in artifact[5])
            and targets_are_right(artifact, others) and numbers_are_right(artifact) and scopes_are_right(artifact)
            and len(keys) == len(set(keys)) and len(offers) == len(set(offers))
            and len(artifact[2]) == len(set(artifact[2])) and all(module in others for module, _ in artifact[2]))
