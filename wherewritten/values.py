"""Values: what evaluation works on, and their bounds.

A value is a tuple: ("number", n), ("flag", True or False), ("text", text), ("syntax", syntax),
a list, or a procedure, whose kind is one of PROCEDURE_KINDS. A list is made of links:
("list", first, rest, parts, all, deep) with the list of the other parts, the number of parts, how
many values are in it, and how deep lists are in it; so it costs the same to put a value in front
of a long list and of a short one.
"""

from wherewritten.showing import show_atom

TOO_GREAT = 10 ** 30
MOST_PARTS = 1000
MOST_VALUES = 3000
DEEPEST_VALUE = 50

EMPTY = ("list", None, None, 0, 1, 1)
PLAIN_KINDS = ("number", "flag", "text")
PROCEDURE_KINDS = ("closure", "prim", "rules", "pattern", "template")


def put_in_front(value, row):
    """Return the list of a value and the parts of a list."""
    if value[0] == "list":
        return ("list", value, row, row[3] + 1, row[4] + value[4], max(row[5], value[5] + 1))
    return ("list", value, row, row[3] + 1, row[4] + 1, row[5])


def list_of(parts):
    """Return the list of some values."""
    row = EMPTY
    for part in parts[::-1]:
        row = put_in_front(part, row)
    return row


def parts_of(row):
    """Return the parts of a list."""
    parts = []
    while row[3] > 0:
        parts.append(row[1])
        row = row[2]
    return parts


def is_number_small(number):
    """Tell whether a number keeps the bounds of values."""
    return -TOO_GREAT < number < TOO_GREAT


def is_list_small(row):
    """Tell whether a list keeps the bounds of values."""
    return row[3] <= MOST_PARTS and row[4] <= MOST_VALUES and row[5] <= DEEPEST_VALUE


def value_of(plain):
    """Return a plain value as a value."""
    if plain[0] != "list":
        return plain
    parts = []
    for part in plain[1]:
        parts.append(value_of(part))
    return list_of(parts)


def same_values(first, second):
    """Tell whether two values are the same."""
    left = [(first, second)]
    while left:
        one, other = left.pop()
        if one[0] != other[0]:
            return False
        if one[0] == "list":
            if one[3] != other[3]:
                return False
            left.extend(list(zip(parts_of(one), parts_of(other))))
        elif one[0] not in PLAIN_KINDS or one[1] != other[1]:
            return False
    return True


def shown(value):
    """Return the shown value."""
    if value[0] in PLAIN_KINDS:
        return show_atom(value[0], value[1])
    if value[0] == "list":
        parts = []
        for part in parts_of(value):
            parts.append(shown(part))
        return "(" + " ".join(parts) + ")"
    return "syntax" if value[0] == "syntax" else "procedure"


def _are_parts_small(plain):
    if plain[0] != "list":
        return True
    for part in plain[1]:
        if not _are_parts_small(part):
            return False
    return len(plain[1]) <= MOST_PARTS


def _plainly(syntax):
    """Return syntax without identifiers, dots and wildcards in the form of a plain value, or None."""
    if syntax[0] == "atom":
        return (syntax[1], syntax[2]) if syntax[1] in PLAIN_KINDS else None
    if syntax[0] == "id":
        return None
    parts = []
    for part in syntax[1]:
        plain = _plainly(part)
        if plain is None:
            return None
        parts.append(plain)
    return ("list", tuple(parts))


def is_plain_small(plain):
    """Tell whether the lists of a plain value keep the bounds of values."""
    return plain[0] != "list" or (_are_parts_small(plain) and is_list_small(value_of(plain)))


def plain_of(syntax):
    """Return the plain value that is written as syntax, or None if it is none."""
    plain = _plainly(syntax)
    return plain if plain is not None and is_plain_small(plain) else None
