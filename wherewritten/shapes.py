"""The forms that lists with words have."""

from wherewritten.errors import ExpandError
from wherewritten.syntax import occurrence_of


def demand(truth, form):
    """Raise an error unless a list has the form that it must have."""
    if not truth:
        raise ExpandError("form", occurrence_of(form))


def is_identifier(syntax):
    """Tell whether syntax is an identifier."""
    return syntax[0] == "id"


def is_list(syntax, least):
    """Tell whether syntax is a list of at least some parts."""
    return syntax[0] == "list" and len(syntax[1]) >= least


def are_identifiers(row):
    """Tell whether all parts of a row are identifiers."""
    for part in row:
        if part[0] != "id":
            return False
    return True


def is_list_of_identifiers(syntax):
    """Tell whether syntax is a list of identifiers, or of nothing."""
    return syntax[0] == "list" and are_identifiers(syntax[1])


def demand_definition(form):
    """Raise an error unless a list is a word, an identifier and an expression."""
    demand(len(form[1]) == 3 and is_identifier(form[1][1]), form)


def demand_pairs(form):
    """Raise an error unless a list is a word, pairs of an identifier and an expression, and a body."""
    demand(is_list(form, 3) and form[1][1][0] == "list", form)
    for pair in form[1][1][1]:
        demand(pair[0] == "list" and len(pair[1]) == 2 and is_identifier(pair[1][0]), form)


def pairs_of(form):
    """Return the lists of the identifiers and of the expressions of the pairs of a list."""
    demand_pairs(form)
    binders, parts = [], []
    for pair in form[1][1][1]:
        binders.append(pair[1][0])
        parts.append(pair[1][1])
    return (binders, parts)


def check_doubles(binders):
    """Raise an error at the first identifier that is the same binder as an earlier one."""
    seen = {}
    for binder in binders:
        key = (binder[1], binder[3])
        if key in seen:
            raise ExpandError("double", occurrence_of(binder))
        seen[key] = True
