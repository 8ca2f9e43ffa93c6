"""The primitive procedures.

Each one is in PRIMITIVES with the kinds of its arguments (None if it takes any number of values)
and with what it does: a function of its arguments, the occurrence of the call, and what expanding
procedures find around them.
"""

from wherewritten.errors import RunError
from wherewritten.resolving import same_binder
from wherewritten.syntax import is_small, occurrence_of
from wherewritten.values import (
    PLAIN_KINDS, PROCEDURE_KINDS, is_list_small, is_number_small, list_of, parts_of, put_in_front,
    same_values,
)


def _number(number, occurrence):
    if not is_number_small(number):
        raise RunError("size", occurrence)
    return ("number", number)


def small_list(row, occurrence):
    """Return a list that keeps the bounds of values; otherwise the call is an error."""
    if not is_list_small(row):
        raise RunError("size", occurrence)
    return row


def _flag(truth):
    return ("flag", truth)


def _plus(given, occurrence, around):
    return _number(given[0][1] + given[1][1], occurrence)


def _minus(given, occurrence, around):
    return _number(given[0][1] - given[1][1], occurrence)


def _times(given, occurrence, around):
    return _number(given[0][1] * given[1][1], occurrence)


def _less(given, occurrence, around):
    return _flag(given[0][1] < given[1][1])


def _equal(given, occurrence, around):
    return _flag(given[0][1] == given[1][1])


def _not(given, occurrence, around):
    return _flag(given[0] == ("flag", False))


def _list(given, occurrence, around):
    return small_list(list_of(given), occurrence)


def _cons(given, occurrence, around):
    return small_list(put_in_front(given[0], given[1]), occurrence)


def _first(given, occurrence, around):
    return given[0][1]


def _rest(given, occurrence, around):
    return small_list(given[0][2], occurrence)


def _is_empty(given, occurrence, around):
    return _flag(given[0][0] == "list" and given[0][3] == 0)


def _is_list(given, occurrence, around):
    return _flag(given[0][0] == "list")


def _is_number(given, occurrence, around):
    return _flag(given[0][0] == "number")


def _is_flag(given, occurrence, around):
    return _flag(given[0][0] == "flag")


def _is_text(given, occurrence, around):
    return _flag(given[0][0] == "text")


def _is_procedure(given, occurrence, around):
    return _flag(given[0][0] in PROCEDURE_KINDS)


def _is_syntax(given, occurrence, around):
    return _flag(given[0][0] == "syntax")


def _is_identifier(given, occurrence, around):
    return _flag(has_kind(given[0], "identifier"))


def _same(given, occurrence, around):
    return _flag(same_values(given[0], given[1]))


def _fail(given, occurrence, around):
    raise RunError("fail", occurrence)


def _parts(given, occurrence, around):
    return small_list(list_of([("syntax", part) for part in given[0][1][1]]), occurrence)


def _join(given, occurrence, around):
    parts = tuple([part[1] for part in parts_of(given[0])])
    joined = ("list", parts, occurrence_of(given[1][1]))
    if not is_small(joined):
        raise RunError("size", occurrence)
    return ("syntax", joined)


def _datum(given, occurrence, around):
    _, kind, value, _ = given[0][1]
    return _number(value, occurrence) if kind == "number" else (kind, value)


def _wrap(given, occurrence, around):
    return ("syntax", ("atom", given[0][0], given[0][1], occurrence_of(given[1][1])))


def _is_bound_equally(given, occurrence, around):
    first, second = given[0][1], given[1][1]
    told = same_binder(first, second)
    if told:
        around.link(first, second)
    return _flag(told)


def _recolored(given, occurrence, around):
    first, second = given[0][1], given[1][1]
    return ("syntax", ("id", second[1], second[2], first[3]))


def _is_free_equally(given, occurrence, around):
    told = around.compared(given[0][1], given[1][1], occurrence)
    if told is None:
        raise RunError("ambiguous", occurrence)
    return _flag(told)


def _fresh(given, occurrence, around):
    return ("syntax", around.freshened(given[0][1], occurrence))


def _local_value(given, occurrence, around):
    return around.looked_up(given[0][1], occurrence)


def _is_row_of_syntax(value):
    if value[0] != "list":
        return False
    for part in parts_of(value):
        if part[0] != "syntax":
            return False
    return True


def has_kind(value, kind):
    """Tell whether a value is of a kind that a procedure takes."""
    if kind in ("any", value[0]):
        return True
    if kind == "filled":
        return value[0] == "list" and value[3] > 0
    if kind == "plain":
        return value[0] in PLAIN_KINDS
    if kind == "row":
        return _is_row_of_syntax(value)
    if value[0] != "syntax":
        return False
    syntax = value[1]
    if kind == "identifier":
        return syntax[0] == "id"
    if kind == "parted":
        return syntax[0] == "list"
    return kind == "atom" and syntax[0] == "atom" and syntax[1] in PLAIN_KINDS


PRIMITIVES = {
    "+": (("number", "number"), _plus),
    "-": (("number", "number"), _minus),
    "*": (("number", "number"), _times),
    "<": (("number", "number"), _less),
    "=": (("number", "number"), _equal),
    "not": (("any",), _not),
    "list": (None, _list),
    "cons": (("any", "list"), _cons),
    "first": (("filled",), _first),
    "rest": (("filled",), _rest),
    "empty?": (("any",), _is_empty),
    "list?": (("any",), _is_list),
    "number?": (("any",), _is_number),
    "flag?": (("any",), _is_flag),
    "text?": (("any",), _is_text),
    "procedure?": (("any",), _is_procedure),
    "syntax?": (("any",), _is_syntax),
    "identifier?": (("any",), _is_identifier),
    "same?": (("any", "any"), _same),
    "fail": (("number",), _fail),
    "parts": (("parted",), _parts),
    "join": (("row", "syntax"), _join),
    "datum": (("atom",), _datum),
    "wrap": (("plain", "syntax"), _wrap),
    "bound=?": (("identifier", "identifier"), _is_bound_equally),
    "recolored": (("identifier", "identifier"), _recolored),
    "free=?": (("identifier", "identifier"), _is_free_equally),
    "fresh": (("identifier",), _fresh),
    "local-value": (("identifier",), _local_value),
}


def apply_primitive(name, given, occurrence, around):
    """Return what a primitive procedure gives for some arguments."""
    kinds, action = PRIMITIVES[name]
    if kinds is not None:
        if len(given) != len(kinds):
            raise RunError("count", occurrence)
        for arg, kind in zip(given, kinds):
            if not has_kind(arg, kind):
                raise RunError("kind", occurrence)
    return action(given, occurrence, around)
