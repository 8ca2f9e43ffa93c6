"""Using modules: specs, making modules ready, and importing what they offer."""

from wherewritten.errors import ExpandError
from wherewritten.interfaces import interface_of
from wherewritten.shapes import are_identifiers, is_identifier, is_list_of_identifiers
from wherewritten.syntax import occurrence_of
from wherewritten.table import CORE_SCOPE, LAST_PHASE, is_macro
from wherewritten.walking import with_sets


def _is_pair_of_identifiers(syntax):
    return is_list_of_identifiers(syntax) and len(syntax[1]) == 2


def word_of_spec(session, spec, level):
    """Return the word to which the first part of a spec is bound, or None."""
    if spec[0] != "list" or not spec[1] or not is_identifier(spec[1][0]):
        return None
    target = session.record.look(level, spec[1][0])[1]
    return target[1] if target is not None and target[0] == "word" else None


class Spec:
    """What a spec of a use tells."""

    def __init__(self, session, syntax, level):
        self.word = None
        self.module = syntax
        self.parts = ()
        if not is_identifier(syntax):
            self.word = word_of_spec(session, syntax, level)
            if not self.is_sound(syntax):
                raise ExpandError("form", occurrence_of(syntax))
            self.module = syntax[1][1]
            self.parts = syntax[1][2:]

    def is_sound(self, syntax):
        """Tell whether a list with the word is a spec."""
        if self.word not in ("only", "except", "rename"):
            return False
        if len(syntax[1]) < 2 or not is_identifier(syntax[1][1]):
            return False
        if self.word != "rename":
            return are_identifiers(syntax[1][2:])
        for part in syntax[1][2:]:
            if not _is_pair_of_identifiers(part):
                return False
        return True

    def named(self):
        """Return the list of the identifiers that tell names of offers."""
        if self.word == "rename":
            return [part[1][0] for part in self.parts]
        return list(self.parts)

    def bringers(self, name):
        """Return the list of the identifiers that bring an offer with a name."""
        if self.word == "rename":
            return [part[1][1] for part in self.parts if part[1][0][1] == name]
        found = [part for part in self.parts if part[1] == name]
        if self.word == "only":
            return found
        return [] if found else [self.module]


def is_at_phase(target, phase):
    """Tell whether there can be a binding to a target at a phase."""
    return phase < LAST_PHASE or (phase == LAST_PHASE and not is_macro(target))


def _shifted_set(scopes, shift):
    shifted = []
    for module, number, before in scopes:
        if (module, number, before) == CORE_SCOPE:
            shifted.append(CORE_SCOPE)
        else:
            shifted.append((module, number, before + shift))
    return tuple(sorted(shifted))


class Readying:
    """Makes modules ready for a session, each at most once for each shift."""

    def __init__(self, session, occurrence):
        self.session = session
        # The occurrence of the name of the module that is used.
        self.occurrence = occurrence

    def make_ready(self, name, shift):
        """Make a module ready for a shift, behind its own uses."""
        readied = self.session.readied
        if (name, shift) in readied:
            return
        readied[(name, shift)] = True
        artifact = self.session.provider.artifact_of(name)
        if artifact is None:
            raise ExpandError("module", self.occurrence)
        for module, level in artifact[2]:
            if shift + level <= LAST_PHASE:
                self.make_ready(module, shift + level)
        self.take(interface_of(artifact, shift), shift)
        self.session.ready_rows.append((name, shift))

    def take(self, artifact, shift):
        """Add the bindings of an interface to the table, and evaluate its items."""
        _, module, _, _, bindings, items = artifact
        for phase, name, scopes, target, giver in bindings:
            if is_at_phase(target, phase + shift):
                row = (phase + shift, name, _shifted_set(scopes, shift), target, giver)
                self.session.meanings.put_row(row)
        for kind, level, number, term in items:
            item = (kind, level, number, with_sets(term, _shifted_set, shift))
            self.session.do_item(module, shift, item, self.occurrence)


def _import(session, offer, level, bringer, is_renamed):
    """Import an offer at a level by an identifier."""
    name, phase, target, giver = offer
    if not is_at_phase(target, phase + level):
        return
    at = occurrence_of(bringer)
    scopes = session.context.cleared(bringer)[3]
    if is_renamed:
        name, giver = bringer[1], at
    known = session.meanings.target_at(phase + level, name, scopes)
    if known is None:
        session.add_binding((phase + level, name, scopes, target, giver))
    elif known != target:
        raise ExpandError("conflict", at)


def _check_named(session, spec, offers):
    """Raise an error at a name that is not offered; arrows go to the givers of the others."""
    for identifier in spec.named():
        givers = [offer[3] for offer in offers if offer[0] == identifier[1]]
        if not givers:
            raise ExpandError("offer", occurrence_of(identifier))
        for giver in givers:
            session.record.note_arrow(occurrence_of(identifier), giver)


def take_spec(session, syntax, level):
    """Take a spec of a use at a level."""
    spec = Spec(session, syntax, level)
    at = occurrence_of(spec.module)
    name = spec.module[1]
    artifact = None if name == session.module else session.provider.artifact_of(name)
    if artifact is None:
        raise ExpandError("module", at)
    session.record.fix(at)
    if (name, level) not in session.uses:
        session.uses.append((name, level))
    Readying(session, at).make_ready(name, level)
    _check_named(session, spec, artifact[3])
    for offer in artifact[3]:
        for bringer in spec.bringers(offer[0]):
            _import(session, offer, level, bringer, spec.word == "rename")


def take_specs(session, specs, level):
    """Take the specs of a use at a level."""
    for spec in specs:
        take_spec(session, spec, level)
