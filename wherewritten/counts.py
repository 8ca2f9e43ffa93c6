"""Calls with a number of arguments that what they call does not take."""

from wherewritten.interfaces import phase_of_item
from wherewritten.procedures import PRIMITIVES
from wherewritten.walking import terms_in


def _variable_of(term):
    """Return a top term without its occurrence."""
    return term[:4]


def _taken_by_constants(artifact):
    """Return a dict from the constant variables of procedures of fn to how many arguments these take."""
    _, module, _, _, _, items = artifact
    changed_ones = {}
    for item in items:
        for term in terms_in(item[3]):
            if term[0] == "set" and term[1][0] == "top":
                changed_ones[_variable_of(term[1])] = True
    taken = {}
    for kind, level, number, term in items:
        variable = ("top", module, level, number)
        if kind == "def" and term[0] == "fn" and variable not in changed_ones:
            taken[variable] = len(term[1])
    return taken


def _taken_by(term, level, constants):
    """Return how many arguments are taken by what a term at a level gives, or None if that is not known."""
    if term[0] == "fn":
        return len(term[1])
    if term[0] == "prim":
        kinds = PRIMITIVES[term[1]][0]
        return None if kinds is None else len(kinds)
    if term[0] == "top" and term[2] == level:
        return constants.get(_variable_of(term))
    return None


def miscounts(artifact):
    """Return the ascending list of the occurrences of the calls that miscount."""
    constants = _taken_by_constants(artifact)
    found = {}
    for item in artifact[5]:
        level = phase_of_item(item, 0)
        for term in terms_in(item[3]):
            if term[0] == "call":
                taken = _taken_by(term[1], level, constants)
                if taken is not None and taken != len(term[2]):
                    found[term[3]] = True
    return sorted(list(found))
