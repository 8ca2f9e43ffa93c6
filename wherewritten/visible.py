"""What names are visible at an occurrence of a compiled module."""


def visible(compiled, occurrence):
    """Return the ascending list of the pairs (phase, names), for each phase and set of the tale of an occurrence."""
    found = {}
    for phase, scopes, _, _ in compiled.tale(occurrence):
        found[(phase, scopes)] = True
    pairs = {}
    for phase, scopes in found:
        pairs[(phase, tuple(compiled.names_bound(phase, scopes)))] = True
    return sorted(list(pairs))
