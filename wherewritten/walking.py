"""Going through terms, and what stands in them."""

from wherewritten.syntax import changed


def parts_of_term(term):
    """Return the terms that stand in a term, in order; the variable of a set is one of them."""
    kind = term[0]
    if kind == "fn":
        return (term[2],)
    if kind == "call":
        return (term[1], *term[2])
    if kind == "do":
        return term[1]
    if kind in ("if", "set"):
        return term[1:]
    if kind == "rec":
        return (*[part for _, part in term[1]], term[2])
    return ()


def terms_in(term):
    """Return the list of all terms in a term, itself included, in the order in which they stand."""
    found = []
    left = [term]
    while left:
        part = left.pop()
        found.append(part)
        left.extend(parts_of_term(part)[::-1])
    return found


def syntax_in(term):
    """Return the list of the syntax in the terms of a term, in order."""
    return [part[1] for part in terms_in(term) if part[0] in ("syntax", "rules", "pattern", "template")]


def _with_sets_here(term, change, by):
    """Return a term without terms in it, with other sets."""
    if term[0] in ("syntax", "rules", "pattern"):
        return (term[0], changed(term[1], change, by))
    if term[0] == "template":
        rows = []
        for name, scopes, number, deep in term[2]:
            rows.append((name, change(scopes, by), number, deep))
        return ("template", changed(term[1], change, by), tuple(rows))
    return term


def with_parts(term, parts):
    """Return a term with other terms in it, as many as it has, in the order of parts_of_term."""
    kind = term[0]
    if kind == "fn":
        return ("fn", term[1], parts[0])
    if kind == "call":
        return ("call", parts[0], tuple(parts[1:]), term[3])
    if kind == "do":
        return ("do", tuple(parts))
    if kind in ("if", "set"):
        return (kind, *parts)
    if kind == "rec":
        pairs = [(pair[0], part) for pair, part in zip(term[1], parts)]
        return ("rec", tuple(pairs), parts[-1])
    return term


def rebuilt(term, change):
    """Return what a function makes of a term, the parts of which it has changed before, and so on."""
    made = []
    # The terms that are left, the next on top, and whether their parts are made.
    left = [(term, False)]
    while left:
        part, is_ready = left.pop()
        parts = parts_of_term(part)
        if parts and not is_ready:
            left.append((part, True))
            left.extend([(inner, False) for inner in parts[::-1]])
            continue
        start = len(made) - len(parts)
        given = made[start:]
        del made[start:]
        made.append(change(with_parts(part, given)))
    return made[0]


def with_sets(term, change, by):
    """Return a term in whose syntax a function of each set and of something else gave the new set."""
    return rebuilt(term, lambda part: _with_sets_here(part, change, by))
