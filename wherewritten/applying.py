"""Applying procedures other than those of fn, and the procedures of patterns and templates."""

from wherewritten.errors import RulesError, RunError
from wherewritten.patterns import Matcher, PatternMaker
from wherewritten.procedures import apply_primitive, small_list
from wherewritten.templates import Template
from wherewritten.values import list_of, parts_of


def _listed(got, deep, occurrence):
    """Return what a variable of a depth got as a value."""
    if deep == 0:
        return ("syntax", got)
    return small_list(list_of([_listed(once, deep - 1, occurrence) for once in got]), occurrence)


def _is_listed(value, deep):
    """Tell whether a value is syntax in lists that are as deep as a variable."""
    if deep == 0:
        return value[0] == "syntax"
    if value[0] != "list":
        return False
    for part in parts_of(value):
        if not _is_listed(part, deep - 1):
            return False
    return True


def _unlisted(value, deep):
    """Return what a variable of a depth gets from a value."""
    if deep == 0:
        return value[1]
    return [_unlisted(part, deep - 1) for part in parts_of(value)]


def _take_syntax(given, occurrence):
    """Return the syntax that is the only argument."""
    if len(given) != 1:
        raise RunError("count", occurrence)
    if given[0][0] != "syntax":
        raise RunError("kind", occurrence)
    return given[0][1]


class PatternProcedure:
    """What a term pattern gives: it matches syntax."""

    def __init__(self, form):
        literals, pattern = form[1]
        maker = PatternMaker(literals[1])
        self.pattern = maker.made(pattern, 0)
        self.depths = tuple([deep for _, deep in maker.bound])

    def apply_to(self, given, occurrence, around):
        """Return the list of what the variables got, or the flag False."""
        syntax = _take_syntax(given, occurrence)
        matcher = Matcher(lambda literal, other: around.compared(literal, other, occurrence))
        got = matcher.match(self.pattern, syntax)
        if got is None:
            return ("flag", False)
        parts = [_listed(got[number], deep, occurrence) for number, deep in enumerate(self.depths)]
        return small_list(list_of(parts), occurrence)


def template_for(syntax, rows):
    """Return the template of syntax with the variables of some rows."""
    numbers = {}
    for name, scopes, number, deep in rows:
        numbers[(name, scopes)] = (number, deep)
    return Template(syntax, numbers)


class TemplateProcedure:
    """What a term template gives: it fills a template with its arguments."""

    def __init__(self, syntax, rows):
        self.template = template_for(syntax, rows)
        # How many arguments it takes, and the depths of those that are not 0 deep, by their numbers.
        self.many = max([number + 1 for _, _, number, _ in rows], default=0)
        self.depths = {number: deep for _, _, number, deep in rows}

    def apply_to(self, given, occurrence, around):
        """Return the syntax that filling makes."""
        if len(given) != self.many:
            raise RunError("count", occurrence)
        for number, arg in enumerate(given):
            if not _is_listed(arg, self.depths.get(number, 0)):
                raise RunError("kind", occurrence)
        got = {}
        for number, arg in enumerate(given):
            got[number] = _unlisted(arg, self.depths.get(number, 0))
        return ("syntax", self.template.fill(got, occurrence))


class RulesProcedure:
    """What a term rules gives: it applies rules to syntax."""

    def __init__(self, rules):
        self.rules = rules

    def apply_to(self, given, occurrence, around):
        """Return the syntax that the rules make of the argument."""
        syntax = _take_syntax(given, occurrence)
        around.demand(occurrence)
        return ("syntax", self.rules.apply(syntax, lambda one, other: around.compared(one, other, occurrence)))


def applied(procedure, given, occurrence, around):
    """Return what a value that is no procedure of a fn gives for some arguments."""
    kind = procedure[0]
    if kind == "prim":
        return apply_primitive(procedure[1], given, occurrence, around)
    if kind not in ("rules", "pattern", "template"):
        raise RunError("apply", occurrence)
    action = procedure[1]
    try:
        return action.apply_to(given, occurrence, around)
    except RulesError as error:
        raise RunError(error.code, error.occurrence) from None
