"""Syntax: what expansion works on, and the scopes in it."""

from wherewritten.reading import is_name

LARGEST_SYNTAX = 3000
DEEPEST_SYNTAX = 100


def syntax_of(module, datum, scopes):
    """Return the syntax of a datum in a module, with a set at all identifiers."""
    kind, value, place = datum
    occurrence = (module, place)
    if kind == "name":
        return ("id", value, occurrence, scopes)
    if kind != "list":
        return ("atom", kind, value, occurrence)
    parts = []
    for part in value:
        parts.append(syntax_of(module, part, scopes))
    return ("list", tuple(parts), occurrence)


def datum_of(syntax):
    """Return syntax as a datum, with the places of its occurrences."""
    if syntax[0] == "id":
        return ("name", syntax[1], syntax[2][1])
    if syntax[0] == "atom":
        return (syntax[1], syntax[2], syntax[3][1])
    parts = []
    for part in syntax[1]:
        parts.append(datum_of(part))
    return ("list", tuple(parts), syntax[2][1])


def occurrence_of(syntax):
    """Return where syntax was written."""
    return syntax[3] if syntax[0] == "atom" else syntax[2]


def is_dots(syntax):
    """Tell whether syntax is dots."""
    return syntax[0] == "atom" and syntax[1] == "dots"


def _set_with(scopes, scope):
    if scope in scopes:
        return scopes
    return tuple(sorted([*scopes, scope]))


def _set_without(scopes, scope):
    return tuple([one for one in scopes if one != scope])


def _set_flipped(scopes, scope):
    if scope in scopes:
        return _set_without(scopes, scope)
    return _set_with(scopes, scope)


def changed(syntax, change, by):
    """Return syntax in which a function of each set and of something else gave the new set."""
    if syntax[0] == "id":
        return ("id", syntax[1], syntax[2], change(syntax[3], by))
    if syntax[0] == "atom":
        return syntax
    parts = []
    for part in syntax[1]:
        parts.append(changed(part, change, by))
    return ("list", tuple(parts), syntax[2])


def added(syntax, scope):
    """Return syntax with a scope added to the sets of all identifiers."""
    return changed(syntax, _set_with, scope)


def removed(syntax, scope):
    """Return syntax with a scope taken out of the sets of all identifiers."""
    return changed(syntax, _set_without, scope)


def flipped(syntax, scope):
    """Return syntax with a scope added to the sets that lack it and taken out of the others."""
    return changed(syntax, _set_flipped, scope)


def identifiers(syntax):
    """Return the list of the identifiers in syntax, in the order in which they stand."""
    found = []
    left = [syntax]
    while left:
        part = left.pop()
        if part[0] == "id":
            found.append(part)
        elif part[0] == "list":
            left.extend(part[1][::-1])
    return found


def size(syntax):
    """Return how many identifiers, atoms and lists are in syntax."""
    many = 0
    left = [syntax]
    while left:
        part = left.pop()
        many += 1
        if part[0] == "list":
            left.extend(part[1])
    return many


def depth(syntax):
    """Return how deep lists are in syntax: 0 for identifiers and atoms."""
    if syntax[0] != "list":
        return 0
    deep = 0
    for part in syntax[1]:
        deep = max(deep, depth(part))
    return deep + 1


def is_small(syntax):
    """Tell whether syntax keeps the bounds for results; it looks at no more of it than these allow."""
    many = 1
    left = [(syntax, 0)]
    while left:
        part, around = left.pop()
        if part[0] == "list":
            many += len(part[1])
            if many > LARGEST_SYNTAX or around == DEEPEST_SYNTAX:
                return False
            for inner in part[1]:
                left.append((inner, around + 1))
    return True


def _is_count(value):
    return isinstance(value, int) and not isinstance(value, bool) and value >= 0


def _is_scope(value):
    if not isinstance(value, tuple) or len(value) != 3:
        return False
    module, number, shift = value
    if not isinstance(module, str) or not is_name(module):
        return False
    return _is_count(number) and _is_count(shift)


def is_set(value):
    """Tell whether a value of any kind is a set of scopes."""
    if not isinstance(value, tuple):
        return False
    for at, scope in enumerate(value):
        if not _is_scope(scope):
            return False
        if at > 0 and not value[at - 1] < scope:
            return False
    return True
