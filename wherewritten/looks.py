"""Looks at compiled modules: what grows, what is copied, what nothing refers to, what is reached."""

from wherewritten.arrows import all_arrows
from wherewritten.table import LAST_PHASE
from wherewritten.walking import terms_in


def growths(compiled):
    """Return the list of the growths of the steps of a compiled module."""
    return compiled.growth_list()


def _occurrence_of_variable(term):
    """Return the occurrence of a local or top term, or None for others."""
    if term[0] == "local":
        return term[2]
    return term[4] if term[0] == "top" else None


def copies(compiled):
    """Return the ascending list of the pairs of an occurrence of variables and how many have it."""
    many = {}
    for item in compiled.artifact()[5]:
        for term in terms_in(item[3]):
            occurrence = _occurrence_of_variable(term)
            if occurrence is not None:
                many[occurrence] = many.get(occurrence, 0) + 1
    return sorted([(occurrence, many[occurrence]) for occurrence in many])


def loose(made):
    """Return the ascending list of the givers to which nothing leads and that nothing offers."""
    used = {}
    for _, giver in all_arrows(made):
        used[giver] = True
    found = {}
    for compiled in made:
        for offer in compiled.artifact()[3]:
            used[offer[3]] = True
        for binder in compiled.binders():
            found[binder] = True
    return sorted([binder for binder in found if binder not in used])


def reach(artifacts, main):
    """Return the ascending list of the pairs (module, shift) that a main module makes ready, and itself."""
    found = {(main, 0): True}
    left = [(main, 0)]
    while left:
        name, shift = left.pop()
        if name not in artifacts:
            continue
        for module, level in artifacts[name][2]:
            pair = (module, shift + level)
            if shift + level <= LAST_PHASE and pair not in found:
                found[pair] = True
                left.append(pair)
    return sorted(list(found))
