"""Going through terms, and what stands in them."""

from wherewritten.syntax import changed


def parts_of_term(term):
    """Return the terms that stand in a term, in order; the variable of a set is one of them."""
    kind = term[0]
    if kind == "fn":
        return (term[2],)
    if kind == "call":
        return (term[1], *term[2])
    if kind == "do":
        return term[1]
    if kind in ("if", "set"):
        return term[1:]
    if kind == "rec":
        return (*[part for _, part in term[1]], term[2])
    return ()


def terms_in(term):
    """Return the list of all terms in a term, itself included, in the order in which they stand."""
    found = []
    left = [term]
    while left:
        part = left.pop()
        found.append(part)
        left.extend(parts_of_term(part)[::-1])
    return found


def syntax_in(term):
    """Return the list of the syntax in the terms of a term, in order."""
    return [part[1] for part in terms_in(term) if part[0] in ("syntax", "rules", "pattern", "template")]


def _with_sets_here(term, change, by):
    """Return a term without terms in it, with other sets."""
    if term[0] in ("syntax", "rules", "pattern"):
        return (term[0], changed(term[1], change, by))
    if term[0] == "template":
        rows = []
        for name, scopes, number, deep in term[2]:
            rows.append((name, change(scopes, by), number, deep))
        return ("template", changed(term[1], change, by), tuple(rows))
    return term


def with_sets(term, change, by):
    """Return a term in whose syntax a function of each set and of something else gave the new set."""
    kind = term[0]
    if kind == "fn":
        return ("fn", term[1], with_sets(term[2], change, by))
    if kind == "rec":
        pairs = []
        for number, part in term[1]:
            pairs.append((number, with_sets(part, change, by)))
        return ("rec", tuple(pairs), with_sets(term[2], change, by))
    parts = []
    for part in parts_of_term(term):
        parts.append(with_sets(part, change, by))
    if kind == "call":
        return ("call", parts[0], tuple(parts[1:]), term[3])
    if kind == "do":
        return ("do", tuple(parts))
    if kind in ("if", "set"):
        return (kind, *parts)
    return _with_sets_here(term, change, by)
