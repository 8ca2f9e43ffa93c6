"""The words match and fill: functions of an expander, a list and a setting."""

from wherewritten.bodies import expand_body
from wherewritten.errors import ExpandError, RulesError
from wherewritten.patterns import PatternMaker
from wherewritten.setting import Environment
from wherewritten.shapes import demand, is_list, is_list_of_identifiers
from wherewritten.syntax import added, identifiers, occurrence_of
from wherewritten.table import is_core
from wherewritten.templates import Template
from wherewritten.wiring import arrows_of_pattern

DEEPEST_EXPRESSION = 40
MOST_VARIABLES = 40


def _demand_match(form, setting):
    """Raise an error unless a list is a match with not too many clauses."""
    demand(is_list(form, 3) and is_list_of_identifiers(form[1][2]), form)
    for clause in form[1][3:]:
        demand(is_list(clause, 2), form)
    if setting.around + len(form[1]) - 3 > DEEPEST_EXPRESSION:
        raise ExpandError("deep", occurrence_of(form))


def _variables_of(literals, pattern):
    """Return the list of the pairs of a variable of a pattern and its depth."""
    maker = PatternMaker(literals)
    try:
        maker.made(pattern, 0)
    except RulesError as error:
        raise ExpandError(error.code, error.occurrence) from None
    return maker.bound


def _with_scope_at(syntax, keys, scope):
    """Return syntax with a scope added to the identifiers with some names and sets."""
    if syntax[0] == "id":
        return added(syntax, scope) if (syntax[1], syntax[3]) in keys else syntax
    if syntax[0] == "atom":
        return syntax
    parts = []
    for part in syntax[1]:
        parts.append(_with_scope_at(part, keys, scope))
    return ("list", tuple(parts), syntax[2])


def _bind_variables(expander, bound, scope, phase, environment):
    """Bind the variables of a pattern to new local variables, and return their numbers."""
    session = expander.session
    numbers = []
    for identifier, deep in bound:
        target = session.new_local()
        session.bind(phase, added(identifier, scope), target)
        session.depths[target] = deep
        environment.let_in(target)
        numbers.append(target[2])
    return tuple(numbers)


def _expand_clause(expander, form, index, setting):
    """Return (form of the pattern term, variable that its value gets, variables, term of the body)."""
    session = expander.session
    literals, clause = form[1][2], form[1][3 + index]
    pattern = clause[1][0]
    at = occurrence_of(clause)
    bound = _variables_of(literals[1], pattern)
    for use, giver in arrows_of_pattern(literals[1], pattern):
        session.record.note_arrow(use, giver)
    scope = session.new_scope("match", at)
    demand(len(bound) <= MOST_VARIABLES, clause)
    keys = {(identifier[1], identifier[3]): True for identifier, _ in bound}
    made = ("list", (literals, _with_scope_at(pattern, keys, scope)), at)
    result = session.new_local()[2]
    environment = Environment(setting.environment)
    numbers = _bind_variables(expander, bound, scope, setting.phase, environment)
    forms = [added(part, scope) for part in clause[1][1:]]
    # As the body of a fn in the match it would be inside of one more; it is inside of two beyond that.
    term = expand_body(expander, forms, at, setting.inside(environment, 3 + index))
    return (made, result, numbers, term)


def _parts_of_result(result, many, at):
    """Return the terms for the parts of the list that a local variable holds."""
    terms = []
    row = ("local", result, at)
    for _ in range(many):
        terms.append(("call", ("prim", "first"), (row,), at))
        row = ("call", ("prim", "rest"), (row,), at)
    return tuple(terms)


def expand_match(expander, form, setting):
    """Return the term of a match."""
    _demand_match(form, setting)
    at = occurrence_of(form)
    matched = expander.expand(form[1][1], setting.inside())
    variable = expander.session.new_local()[2]
    clauses = []
    for index in range(len(form[1]) - 3):
        clauses.append(_expand_clause(expander, form, index, setting))
    term = ("call", ("prim", "fail"), (("const", ("number", 0)),), at)
    for made, result, numbers, body in clauses[::-1]:
        told = ("call", ("pattern", made), (("local", variable, at),), at)
        found = ("call", ("fn", numbers, body), _parts_of_result(result, len(numbers), at), at)
        term = ("call", ("fn", (result,), ("if", ("local", result, at), found, term)), (told,), at)
    return ("call", ("fn", (variable,), term), (matched,), at)


class Filling:
    """What stands in a list with the word fill."""

    def __init__(self, expander, setting):
        self.expander = expander
        self.setting = setting
        # The pattern variables, as local terms, by their targets; and the rows of the template.
        self.numbers = {}
        self.given_terms = []
        self.rows = {}

    def take(self, identifier):
        """Look at an identifier of the template."""
        record = self.expander.session.record
        told = record.meanings.resolved(self.setting.phase, identifier)
        kind, target, _ = told
        if kind == "ambiguous":
            raise ExpandError("ambiguous", occurrence_of(identifier))
        if target is None or is_core(target):
            return
        record.note(self.setting.phase, identifier, told)
        if target in self.expander.session.depths:
            self.take_variable(identifier, target)

    def take_variable(self, identifier, target):
        """Make an identifier a variable of the template."""
        at = occurrence_of(identifier)
        if not self.setting.lets(target):
            raise ExpandError("scope", at)
        if target not in self.numbers:
            self.numbers[target] = len(self.given_terms)
            self.given_terms.append(("local", target[2], at))
        deep = self.expander.session.depths[target]
        self.rows.setdefault((identifier[1], identifier[3]), (self.numbers[target], deep))


def expand_fill(expander, form, setting):
    """Return the term of a fill."""
    demand(len(form[1]) == 2, form)
    syntax = form[1][1]
    filling = Filling(expander, setting)
    for identifier in identifiers(syntax):
        filling.take(identifier)
    try:
        Template(syntax, filling.rows)
    except RulesError as error:
        raise ExpandError(error.code, error.occurrence) from None
    rows = []
    for name, scopes in filling.rows:
        number, deep = filling.rows[(name, scopes)]
        rows.append((name, scopes, number, deep))
    return ("call", ("template", syntax, tuple(rows)), tuple(filling.given_terms), occurrence_of(form))


MATCH_FORMS = {"match": expand_match, "fill": expand_fill}
