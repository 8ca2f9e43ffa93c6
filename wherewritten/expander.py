"""Expanding: from syntax to terms."""

from wherewritten.errors import ExpandError
from wherewritten.expansion import Expansion
from wherewritten.matches import DEEPEST_EXPRESSION, MATCH_FORMS
from wherewritten.showing import show
from wherewritten.syntax import added, datum_of, flipped, is_small, occurrence_of, size
from wherewritten.table import is_macro
from wherewritten.values import PLAIN_KINDS, PROCEDURE_KINDS
from wherewritten.words import FORMS

MOST_STEPS = 500


def _atom_term(atom):
    """Return the term of an atom that is a number, a flag or a text."""
    if atom[1] not in PLAIN_KINDS:
        raise ExpandError("form", occurrence_of(atom))
    return ("const", (atom[1], atom[2]))


def _head_of(syntax):
    """Return syntax that is an identifier, or the identifier that is the first part of a list, or None."""
    if syntax[0] == "list" and syntax[1]:
        syntax = syntax[1][0]
    return syntax if syntax[0] == "id" else None


class Expander:
    """Expands what stands in the module of a session."""

    def __init__(self, session):
        self.session = session

    def look_at(self, syntax, setting):
        """Resolve what tells what syntax is: (kind of the outcome, target, giver); None without one."""
        head = _head_of(syntax)
        if head is None:
            return None
        told = self.session.record.look(setting.phase, head)
        if told[1] is not None and is_macro(told[1]) and not setting.lets(told[1]):
            raise ExpandError("scope", occurrence_of(head))
        return told

    def expand(self, syntax, setting):
        """Return the term of an expression."""
        if setting.around > DEEPEST_EXPRESSION:
            raise ExpandError("deep", occurrence_of(syntax))
        told = self.look_at(syntax, setting)
        while told is not None and told[1] is not None and is_macro(told[1]):
            syntax = self.use(syntax, told[1], setting)
            told = self.look_at(syntax, setting)
        if syntax[0] == "atom":
            return _atom_term(syntax)
        if syntax[0] == "id":
            return self.reference(syntax, told, setting)
        if told is None or told[1] is None or told[1][0] != "word":
            return self.call(syntax, setting)
        word = told[1][1]
        if word in FORMS:
            action = FORMS[word]
        elif word in MATCH_FORMS:
            action = MATCH_FORMS[word]
        else:
            raise ExpandError("place", occurrence_of(syntax))
        return action(self, syntax, setting)

    def reference(self, identifier, told, setting):
        """Return the term of an identifier that is bound to no macro."""
        kind, target, _ = told
        at = occurrence_of(identifier)
        if kind != "bound":
            raise ExpandError(kind, at)
        if not setting.lets(target):
            raise ExpandError("scope", at)
        if target[0] == "word":
            raise ExpandError("word", at)
        if target[0] == "local":
            return ("local", target[2], at)
        return target if target[0] == "prim" else (*target, at)

    def call(self, syntax, setting):
        """Return the term of a list that is no use, and without a word."""
        if not syntax[1]:
            raise ExpandError("form", occurrence_of(syntax))
        inner = setting.inside()
        terms = []
        for part in syntax[1]:
            terms.append(self.expand(part, inner))
        return ("call", terms[0], tuple(terms[1:]), occurrence_of(syntax))

    def use(self, form, target, setting):
        """Return the result of a use of a macro."""
        session = self.session
        at = occurrence_of(form)
        if len(session.step_rows) == MOST_STEPS:
            raise ExpandError("steps", at)
        procedure = session.macro_value(target, setting.phase)
        if procedure[0] not in PROCEDURE_KINDS:
            raise ExpandError("macro", at)
        handed = form
        if session.is_at_home(target, setting.context):
            use_site = session.new_scope("use-site", at)
            setting.context.take_use_site(use_site)
            handed = added(handed, use_site)
        introduction = session.new_scope("introduction", at)
        handed = added(handed, introduction)
        value = session.apply_macro(procedure, handed, Expansion(session, setting, at), at)
        if value[0] != "syntax":
            raise ExpandError("result", at)
        result = flipped(value[1], introduction)
        if not is_small(result):
            raise ExpandError("size", at)
        texts = (show(datum_of(form)), show(datum_of(result)))
        session.step_rows.append((at, setting.phase, target, *texts))
        session.step_growths.append(size(result) - size(form))
        return result
