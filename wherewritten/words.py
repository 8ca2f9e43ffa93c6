"""The words of expressions, but match and fill: functions of an expander, a list and a setting."""

from wherewritten.bodies import do_of, expand_body
from wherewritten.errors import ExpandError, RulesError
from wherewritten.rules import Rules
from wherewritten.setting import Environment
from wherewritten.shapes import (
    check_doubles, demand, demand_pairs, is_identifier, is_list, is_list_of_identifiers, pairs_of,
)
from wherewritten.syntax import added, occurrence_of
from wherewritten.table import LAST_PHASE
from wherewritten.values import plain_of
from wherewritten.wiring import arrows_of_rules


def expand_quote(expander, form, setting):
    """Return the term of a quote."""
    plain = plain_of(form[1][1]) if len(form[1]) == 2 else None
    demand(plain is not None, form)
    return ("const", plain)


def expand_syntax(expander, form, setting):
    """Return the term of a list with the word syntax."""
    demand(len(form[1]) == 2, form)
    return ("syntax", form[1][1])


def expand_rules(expander, form, setting):
    """Return the term of a rules form."""
    try:
        Rules(form)
    except RulesError as error:
        raise ExpandError(error.code, error.occurrence) from None
    for use, giver in arrows_of_rules(form):
        expander.session.record.note_arrow(use, giver)
    return ("rules", form)


def expand_parts(expander, parts, setting):
    """Return the list of the terms of some expressions of a list with a setting."""
    inner = setting.inside()
    terms = []
    for part in parts:
        terms.append(expander.expand(part, inner))
    return terms


def expand_if(expander, form, setting):
    """Return the term of an if."""
    demand(len(form[1]) == 4, form)
    return ("if", *expand_parts(expander, form[1][1:], setting))


def expand_do(expander, form, setting):
    """Return the term of a do."""
    demand(len(form[1]) >= 2, form)
    return do_of(expand_parts(expander, form[1][1:], setting))


def _variable_to_set(expander, identifier, setting):
    """Return the term of a variable that can be set here."""
    at = occurrence_of(identifier)
    kind, target, _ = expander.session.record.look(setting.phase, identifier)
    if kind != "bound":
        raise ExpandError(kind, at)
    if target[0] == "local":
        if not setting.lets(target):
            raise ExpandError("scope", at)
        return ("local", target[2], at)
    if target[0] != "top" or target[1] != expander.session.module or target[2] != setting.phase:
        raise ExpandError("set", at)
    return (*target, at)


def expand_set(expander, form, setting):
    """Return the term of a set."""
    demand(len(form[1]) == 3 and is_identifier(form[1][1]), form)
    variable = _variable_to_set(expander, form[1][1], setting)
    return ("set", variable, expander.expand(form[1][2], setting.inside()))


def bind_locals(expander, binders, phase, environment):
    """Bind identifiers to new local variables of an environment, and return their numbers."""
    numbers = []
    for binder in binders:
        target = expander.session.new_local()
        expander.session.bind(phase, binder, target)
        environment.let_in(target)
        numbers.append(target[2])
    return tuple(numbers)


def _expand_procedure(expander, form, binders, setting):
    """Return the term fn with some binders and the body of a list."""
    check_doubles(binders)
    scope = expander.session.new_scope("fn", occurrence_of(form))
    environment = Environment(setting.environment)
    bound = [added(binder, scope) for binder in binders]
    numbers = bind_locals(expander, bound, setting.phase, environment)
    forms = [added(part, scope) for part in form[1][2:]]
    return ("fn", numbers, expand_body(expander, forms, occurrence_of(form), setting.inside(environment)))


def expand_fn(expander, form, setting):
    """Return the term of a fn."""
    demand(is_list(form, 3) and is_list_of_identifiers(form[1][1]), form)
    return _expand_procedure(expander, form, form[1][1][1], setting)


def expand_let(expander, form, setting):
    """Return the term of a let."""
    binders, parts = pairs_of(form)
    terms = expand_parts(expander, parts, setting)
    procedure = _expand_procedure(expander, form, binders, setting)
    return ("call", procedure, tuple(terms), occurrence_of(form))


def expand_letrec(expander, form, setting):
    """Return the term of a letrec."""
    binders, parts = pairs_of(form)
    check_doubles(binders)
    at = occurrence_of(form)
    scope = expander.session.new_scope("letrec", at)
    environment = Environment(setting.environment)
    bound = [added(binder, scope) for binder in binders]
    numbers = bind_locals(expander, bound, setting.phase, environment)
    inner = setting.inside(environment)
    pairs = []
    for number, part in zip(numbers, parts):
        pairs.append((number, expander.expand(added(part, scope), inner)))
    return ("rec", tuple(pairs), expand_body(expander, [added(part, scope) for part in form[1][2:]], at, inner))


def _values_of_macros(expander, parts, form, setting):
    """Return the list of the values of the expressions for the macros of a list."""
    inner = setting.inside().of_macro()
    found = []
    for part in parts:
        term = expander.expand(part, inner)
        found.append(expander.session.evaluate(term, inner.phase, occurrence_of(form)))
    return found


def _expand_in_macros(expander, form, bound, scope, setting):
    """Return the term of the body of a list, with pairs of binders and values of macros bound for it."""
    session = expander.session
    environment = Environment(setting.environment)
    for binder, value in bound:
        target = session.new_own(value)
        session.bind(setting.phase, added(binder, scope), target)
        environment.let_in(target)
    forms = [added(part, scope) for part in form[1][2:]]
    return expand_body(expander, forms, occurrence_of(form), setting.inside(environment))


def _demand_macros(form, setting):
    demand_pairs(form)
    if setting.phase == LAST_PHASE:
        raise ExpandError("phases", occurrence_of(form))


def expand_letmac(expander, form, setting):
    """Return the term of a letmac."""
    _demand_macros(form, setting)
    binders, parts = pairs_of(form)
    found = _values_of_macros(expander, parts, form, setting)
    check_doubles(binders)
    scope = expander.session.new_scope("letmac", occurrence_of(form))
    return _expand_in_macros(expander, form, list(zip(binders, found)), scope, setting)


def expand_recmac(expander, form, setting):
    """Return the term of a recmac."""
    _demand_macros(form, setting)
    binders, parts = pairs_of(form)
    check_doubles(binders)
    scope = expander.session.new_scope("recmac", occurrence_of(form))
    found = _values_of_macros(expander, [added(part, scope) for part in parts], form, setting)
    return _expand_in_macros(expander, form, list(zip(binders, found)), scope, setting)


FORMS = {
    "quote": expand_quote,
    "syntax": expand_syntax,
    "rules": expand_rules,
    "if": expand_if,
    "do": expand_do,
    "set": expand_set,
    "fn": expand_fn,
    "let": expand_let,
    "letrec": expand_letrec,
    "letmac": expand_letmac,
    "recmac": expand_recmac,
}
