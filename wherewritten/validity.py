"""Telling whether values that may come from anywhere are occurrences, or make a template."""

from wherewritten.applying import TemplateProcedure
from wherewritten.errors import RulesError
from wherewritten.reading import is_name
from wherewritten.syntax import is_set

DEEPEST_VARIABLE = 4


def is_count(value):
    """Tell whether a value is a number of at least 0; True and False are none."""
    return isinstance(value, int) and not isinstance(value, bool) and value >= 0


def is_module_name(value):
    """Tell whether a value is a name."""
    return isinstance(value, str) and is_name(value)


def is_occurrence(value):
    """Tell whether a value is a pair of a module name and a place."""
    return isinstance(value, tuple) and len(value) == 2 and is_module_name(value[0]) and is_count(value[1])


def _is_row(value):
    """Tell whether a value is a row of a template."""
    if not isinstance(value, tuple) or len(value) != 4:
        return False
    name, scopes, number, deep = value
    if not is_module_name(name) or not is_set(scopes) or not is_count(number):
        return False
    return is_count(deep) and deep <= DEEPEST_VARIABLE


def _are_rows(rows):
    """Tell whether a value is the rows of a template."""
    if not isinstance(rows, tuple):
        return False
    seen, depths = {}, {}
    for row in rows:
        if not _is_row(row):
            return False
        name, scopes, number, deep = row
        if (name, scopes) in seen or depths.setdefault(number, deep) != deep:
            return False
        seen[(name, scopes)] = True
    return True


def is_template_for(syntax, rows):
    """Tell whether syntax is a template for a value, the rows of its variables."""
    if not _are_rows(rows):
        return False
    try:
        TemplateProcedure(syntax, rows)
    except RulesError:
        return False
    return True
