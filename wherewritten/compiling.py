"""Compiling modules."""

from wherewritten.errors import ExpandError
from wherewritten.expander import Expander
from wherewritten.groups import take_group
from wherewritten.numbering import make_artifact
from wherewritten.reading import read, spelled
from wherewritten.session import Session
from wherewritten.setting import Environment, Setting
from wherewritten.syntax import syntax_of
from wherewritten.table import CORE_SCOPE
from wherewritten.terms import show_term


class Given:
    """Has the artifacts that were handed in."""

    def __init__(self, artifacts):
        self.artifacts = {name: artifacts[name] for name in artifacts}

    def artifact_of(self, name):
        """Return the artifact of a module, or None."""
        return self.artifacts.get(name)


class Compiled:
    """What the compiling of a module gives."""

    def __init__(self, session):
        self.session = session
        self.kept_artifact = make_artifact(
            session.module, session.uses, session.offers, session.bindings, session.item_rows)

    def artifact(self):
        """Return the artifact."""
        return self.kept_artifact

    def ready(self):
        """Return the list of the pairs (module, shift) in the order in which they were made ready."""
        return list(self.session.ready_rows)

    def steps(self):
        """Return the list of the steps."""
        return list(self.session.step_rows)

    def growth_list(self):
        """Return the list of how much the results of the steps are larger than the uses."""
        return list(self.session.step_growths)

    def arrows(self):
        """Return the ascending list of the arrows."""
        return sorted(list(self.session.record.arrow_pairs))

    def links(self):
        """Return the ascending list of the links."""
        return sorted(list(self.session.record.link_pairs))

    def fixed(self):
        """Return the ascending list of the fixed occurrences."""
        return sorted(list(self.session.record.fixed_places))

    def binders(self):
        """Return the list of the occurrences of the identifiers that were bound, as they were met."""
        return list(self.session.binder_rows)

    def begun(self):
        """Return how many terms were begun by the evaluations."""
        return self.session.spent()

    def scopes(self):
        """Return the list of the pairs (kind, occurrence) of the scopes that were made."""
        return list(self.session.scope_rows)

    def table(self):
        """Return the list of the bindings that were added to those of core."""
        return list(self.session.meanings.rows)

    def tale(self, occurrence):
        """Return the list of what was resolved of what was written at an occurrence."""
        return list(self.session.record.tales.get(occurrence, {}))

    def names_bound(self, phase, scopes):
        """Return the ascending list of the names of which an identifier with a set is bound at a phase."""
        return self.session.meanings.bound_names(phase, scopes)


def _begin(name, text, provider):
    """Return a session and the syntax of the forms of a text."""
    forms = read(text)
    session = Session(name, provider)
    scopes = tuple(sorted([CORE_SCOPE, session.new_scope("module", None)]))
    for place in spelled(text)[1]:
        session.record.fix((name, place))
    return (session, [syntax_of(name, form, scopes) for form in forms])


def compile_with(name, text, provider):
    """Return what compiling a module gives; a provider has the artifacts of others."""
    session, forms = _begin(name, text, provider)
    take_group(Expander(session), forms, 0, None)
    return Compiled(session)


def compile_module(name, text, artifacts):
    """Return what compiling a module gives, with a dict of the artifacts of others."""
    return compile_with(name, text, Given(artifacts))


def expanded(text):
    """Return the shown term of the one form of a text, as an expression of a module that uses nothing."""
    session, forms = _begin("main", text, Given({}))
    if len(forms) != 1:
        raise ExpandError("form", ("main", 0))
    setting = Setting(0, Environment(None), 0, session.context)
    return show_term(Expander(session).expand(forms[0], setting))
