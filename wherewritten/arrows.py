"""Arrows, links and fixed occurrences of several modules, and the groups that hang together."""


def _ascending(rows):
    """Return the ascending list of what stands in some lists, each once."""
    found = {}
    for row in rows:
        for one in row:
            found[one] = True
    return sorted(list(found))


def all_arrows(made):
    """Return the ascending list of the arrows of some compiled modules."""
    return _ascending([compiled.arrows() for compiled in made])


def all_links(made):
    """Return the ascending list of the links of some compiled modules."""
    return _ascending([compiled.links() for compiled in made])


def all_fixed(made):
    """Return the ascending list of the fixed occurrences of some compiled modules."""
    return _ascending([compiled.fixed() for compiled in made])


def group(made, occurrence):
    """Return the ascending list of the occurrences that hang together with an occurrence."""
    near = {}
    for one, other in all_arrows(made) + all_links(made):
        near.setdefault(one, []).append(other)
        near.setdefault(other, []).append(one)
    found = {occurrence: True}
    left = [occurrence]
    while left:
        for other in near.get(left.pop(), []):
            if other not in found:
                found[other] = True
                left.append(other)
    return sorted(list(found))
