"""The arrows in forms of rules: from uses of variables and literals to these."""

from wherewritten.syntax import identifiers, occurrence_of


def _first_occurrences(row):
    """Return a dict from names and sets to where identifiers with these stand first."""
    found = {}
    for identifier in row:
        found.setdefault((identifier[1], identifier[3]), occurrence_of(identifier))
    return found


def _arrows_to(givers, row):
    """Return the list of the arrows from identifiers to those that are the same binder."""
    arrows = []
    for identifier in row:
        key = (identifier[1], identifier[3])
        if key in givers:
            arrows.append((occurrence_of(identifier), givers[key]))
    return arrows


def arrows_of_pattern(literals, syntax):
    """Return the list of the arrows from literals of a pattern to some identifiers, the literals."""
    return _arrows_to(_first_occurrences(literals), identifiers(syntax))


def arrows_of_rules(form):
    """Return the list of the arrows in a rules form that compiles."""
    literals = form[1][1][1]
    known = _first_occurrences(literals)
    arrows = []
    for clause in form[1][2:]:
        pattern, template = clause[1]
        in_pattern = identifiers(("list", pattern[1][1:], pattern[2]))
        arrows.extend(_arrows_to(known, in_pattern))
        variables = [one for one in in_pattern if (one[1], one[3]) not in known]
        arrows.extend(_arrows_to(_first_occurrences(variables), identifiers(template)))
    return arrows
