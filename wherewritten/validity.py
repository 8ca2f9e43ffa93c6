"""Telling whether values that may come from anywhere are what they stand for."""

from wherewritten.applying import template_for
from wherewritten.errors import RulesError
from wherewritten.reading import LONGEST_STRING, is_name
from wherewritten.syntax import DEEPEST_SYNTAX, is_set
from wherewritten.values import is_number_small, is_plain_small

DEEPEST_VARIABLE = 4


def is_count(value):
    """Tell whether a value is a number of at least 0; True and False are none."""
    return isinstance(value, int) and not isinstance(value, bool) and value >= 0


def is_module_name(value):
    """Tell whether a value is a name."""
    return isinstance(value, str) and is_name(value)


def is_occurrence(value):
    """Tell whether a value is a pair of a module name and a place."""
    return is_tuple_of(value, 2) and is_module_name(value[0]) and is_count(value[1])


def is_tuple_of(value, many):
    """Tell whether a value is a tuple with so many parts."""
    return isinstance(value, tuple) and len(value) == many


def has_word(value, word, many):
    """Tell whether a value is a tuple with so many parts, of which the first one is a word."""
    return is_tuple_of(value, many) and isinstance(value[0], str) and value[0] == word


def _is_string(value):
    """Tell whether a value is what stands between the quotes of a string."""
    if not isinstance(value, str) or len(value) > LONGEST_STRING:
        return False
    return all(" " <= sign <= "~" and sign != "\"" for sign in value)


def _is_atom_value(kind, value):
    """Tell whether a value is that of a number, a flag or a text."""
    if kind == "number":
        return isinstance(value, int) and not isinstance(value, bool) and is_number_small(value)
    if kind == "flag":
        return isinstance(value, bool)
    return kind == "text" and _is_string(value)


def is_plain_value(value):
    """Tell whether a value is a plain value that keeps the bounds."""
    left = [value]
    while left:
        part = left.pop()
        if not is_tuple_of(part, 2) or not isinstance(part[0], str):
            return False
        if part[0] == "list" and isinstance(part[1], tuple):
            left.extend(part[1])
        elif not _is_atom_value(part[0], part[1]):
            return False
    return is_plain_small(value)


def _is_leaf_of_syntax(value):
    """Tell whether a value is an identifier or an atom."""
    if has_word(value, "id", 4):
        return is_module_name(value[1]) and is_occurrence(value[2]) and is_set(value[3])
    if not has_word(value, "atom", 4) or not isinstance(value[1], str) or not is_occurrence(value[3]):
        return False
    if value[1] in ("dots", "wild"):
        return value[2] is None
    return _is_atom_value(value[1], value[2])


def is_right_syntax(value):
    """Tell whether a value is syntax that is not too deep."""
    # What is left, and how many lists are around it.
    left = [(value, 0)]
    while left:
        part, around = left.pop()
        if has_word(part, "list", 3):
            if not isinstance(part[1], tuple) or not is_occurrence(part[2]) or around == DEEPEST_SYNTAX:
                return False
            left.extend([(inner, around + 1) for inner in part[1]])
        elif not _is_leaf_of_syntax(part):
            return False
    return True


def _is_row(value):
    """Tell whether a value is a row of a template."""
    if not is_tuple_of(value, 4):
        return False
    name, scopes, number, deep = value
    if not is_module_name(name) or not is_set(scopes) or not is_count(number):
        return False
    return is_count(deep) and deep <= DEEPEST_VARIABLE


def _are_rows(rows):
    """Tell whether a value is the rows of a template."""
    if not isinstance(rows, tuple):
        return False
    seen, depths = {}, {}
    for row in rows:
        if not _is_row(row):
            return False
        name, scopes, number, deep = row
        if (name, scopes) in seen or depths.setdefault(number, deep) != deep:
            return False
        seen[(name, scopes)] = True
    return True


def is_template_for(syntax, rows):
    """Tell whether syntax is a template for a value, the rows of its variables."""
    if not _are_rows(rows):
        return False
    try:
        template_for(syntax, rows)
    except RulesError:
        return False
    return True
