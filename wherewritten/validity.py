"""Telling whether tuples that may come from anywhere are occurrences, plain values, syntax, or forms."""

from wherewritten.applying import PatternProcedure, TemplateProcedure
from wherewritten.errors import RulesError
from wherewritten.reading import LONGEST_STRING, is_name
from wherewritten.rules import Rules
from wherewritten.shapes import is_list_of_identifiers
from wherewritten.syntax import DEEPEST_SYNTAX, is_set
from wherewritten.values import is_number_small, is_plain_small

DEEPEST_VARIABLE = 4


def is_number(value):
    """Tell whether a value is a number; True and False are none."""
    return isinstance(value, int) and not isinstance(value, bool)


def is_count(value):
    """Tell whether a value is a number of at least 0."""
    return is_number(value) and value >= 0


def is_module_name(value):
    """Tell whether a value is a name."""
    return isinstance(value, str) and is_name(value)


def is_occurrence(value):
    """Tell whether a value is a pair of a module name and a place."""
    return isinstance(value, tuple) and len(value) == 2 and is_module_name(value[0]) and is_count(value[1])


def _is_string(value):
    if not isinstance(value, str) or len(value) > LONGEST_STRING:
        return False
    for sign in value:
        if not " " <= sign <= "~" or sign == "\"":
            return False
    return True


def _is_atom(kind, value):
    """Tell whether a value is one of a kind of numbers, flags and texts."""
    if kind == "number":
        return is_number(value) and is_number_small(value)
    if kind == "flag":
        return isinstance(value, bool)
    return kind == "text" and _is_string(value)


def _is_plain_outside(value):
    """Tell whether a value is a plain one, or a list whatever its parts are."""
    if not isinstance(value, tuple) or len(value) != 2 or not isinstance(value[0], str):
        return False
    if value[0] == "list":
        return isinstance(value[1], tuple)
    return _is_atom(value[0], value[1])


def is_plain(value):
    """Tell whether a value is a plain value."""
    left = [value]
    while left:
        part = left.pop()
        if not _is_plain_outside(part):
            return False
        if part[0] == "list":
            left.extend(part[1])
    return is_plain_small(value)


def _is_syntax_outside(value):
    """Tell whether a value is syntax, or a list whatever its parts are."""
    if not isinstance(value, tuple) or not value:
        return False
    if value[0] == "id":
        return len(value) == 4 and is_module_name(value[1]) and is_occurrence(value[2]) and is_set(value[3])
    if value[0] == "atom":
        if len(value) != 4 or not is_occurrence(value[3]) or not isinstance(value[1], str):
            return False
        if value[1] in ("dots", "wild"):
            return value[2] is None
        return _is_atom(value[1], value[2])
    return value[0] == "list" and len(value) == 3 and isinstance(value[1], tuple) and is_occurrence(value[2])


def is_syntax(value):
    """Tell whether a value is syntax that is not too deep."""
    left = [(value, 0)]
    while left:
        part, around = left.pop()
        if not _is_syntax_outside(part):
            return False
        if part[0] == "list":
            if around == DEEPEST_SYNTAX:
                return False
            left.extend([(inner, around + 1) for inner in part[1]])
    return True


def is_rules_form(value):
    """Tell whether a value is a rules form that compiles."""
    if not is_syntax(value):
        return False
    try:
        Rules(value)
    except RulesError:
        return False
    return True


def is_pattern_form(value):
    """Tell whether a value is the form of a pattern term, and compiles."""
    if not is_syntax(value) or value[0] != "list" or len(value[1]) != 2:
        return False
    if not is_list_of_identifiers(value[1][0]):
        return False
    try:
        PatternProcedure(value)
    except RulesError:
        return False
    return True


def _is_row(value):
    """Tell whether a value is a row of a template."""
    if not isinstance(value, tuple) or len(value) != 4:
        return False
    name, scopes, number, deep = value
    if not is_module_name(name) or not is_set(scopes) or not is_count(number):
        return False
    return is_count(deep) and deep <= DEEPEST_VARIABLE


def _are_rows(rows):
    """Tell whether a value is the rows of a template."""
    if not isinstance(rows, tuple):
        return False
    seen, depths = {}, {}
    for row in rows:
        if not _is_row(row):
            return False
        name, scopes, number, deep = row
        if (name, scopes) in seen or depths.setdefault(number, deep) != deep:
            return False
        seen[(name, scopes)] = True
    return True


def is_template(syntax, rows):
    """Tell whether values are the syntax and the rows of a template term, and compile."""
    if not is_syntax(syntax) or not _are_rows(rows):
        return False
    try:
        TemplateProcedure(syntax, rows)
    except RulesError:
        return False
    return True
