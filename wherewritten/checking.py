"""Checking artifacts that may come from anywhere."""

from wherewritten.interfaces import Keeper, is_of_module
from wherewritten.numbering import is_plain_item
from wherewritten.syntax import identifiers, is_set
from wherewritten.table import LAST_PHASE
from wherewritten.validity import (
    has_word, is_count, is_module_name, is_occurrence, is_right_syntax, is_tuple_of,
)
from wherewritten.walking import syntax_in, terms_in
from wherewritten.wholeness import is_level, is_whole_term

ITEM_KINDS = {"top": "def", "macro": "mac"}


def is_term(value):
    """Tell whether a tuple is a term."""
    return is_whole_term(value)


def is_syntax_value(value):
    """Tell whether a tuple is syntax."""
    return is_right_syntax(value)


def _is_target(value):
    if not isinstance(value, tuple) or len(value) < 2 or not is_module_name(value[1]):
        return False
    if has_word(value, "local", 3) or has_word(value, "own", 3):
        return is_count(value[2])
    if has_word(value, "top", 4) or has_word(value, "macro", 4):
        return is_level(value[2]) and is_count(value[3])
    return False


def _is_use(value):
    return is_tuple_of(value, 2) and is_module_name(value[0]) and is_level(value[1])


def _is_offer(value):
    if not is_tuple_of(value, 4):
        return False
    name, phase, target, giver = value
    return is_module_name(name) and is_level(phase) and _is_target(target) and is_occurrence(giver)


def _is_binding(value):
    if not is_tuple_of(value, 5):
        return False
    phase, name, scopes, target, giver = value
    if not is_level(phase) or not is_module_name(name) or not is_set(scopes):
        return False
    return _is_target(target) and is_occurrence(giver)


def _is_item(value):
    """Tell whether a value is an item, whatever its term is."""
    if not is_tuple_of(value, 4) or not is_level(value[1]) or not is_count(value[2]):
        return False
    if has_word(value, "mac", 4):
        return value[1] < LAST_PHASE
    return has_word(value, "def", 4) or (has_word(value, "expr", 4) and value[2] == 0)


def _are_all(rows, holds):
    """Tell whether a value is a tuple, of each part of which a function holds."""
    if not isinstance(rows, tuple):
        return False
    for row in rows:
        if not holds(row):
            return False
    return True


def _has_form(value):
    if not has_word(value, "module", 6) or not is_module_name(value[1]) or value[1] == "core":
        return False
    _, _, uses, offers, bindings, items = value
    if not _are_all(uses, _is_use) or not _are_all(offers, _is_offer):
        return False
    return _are_all(bindings, _is_binding) and _are_all(items, _is_item)


def _are_different(keys):
    return len({key: True for key in keys}) == len(keys)


def _has_terms(value, artifacts):
    return _are_all(value[5], lambda item: is_whole_term(item[3]))


def _has_uses(value, artifacts):
    for module, _ in value[2]:
        if module not in artifacts:
            return False
    return _are_different(value[2])


class ScopeCount:
    """Counts the scopes of a module as they come in sets."""

    def __init__(self, module):
        self.module = module
        self.many = 0

    def fits(self, scopes):
        """Tell whether the scopes of the module in a set came before, or are the next ones."""
        for module, number, shift in scopes:
            if module != self.module:
                continue
            if shift != 0 or number > self.many:
                return False
            if number == self.many:
                self.many += 1
        return True


def _sets_in(items):
    """Return the list of the sets in the syntax of items, identifiers in the order of their standing."""
    found = []
    for item in items:
        for syntax in syntax_in(item[3]):
            found.extend([identifier[3] for identifier in identifiers(syntax)])
    return found


def _has_scopes(value, artifacts):
    _, module, _, _, bindings, items = value
    others = [item for item in items if not is_plain_item(item)]
    keeper = Keeper(others)
    early = [binding[2] for binding in bindings if keeper.keeps(binding)]
    late = [binding[2] for binding in bindings if not keeper.keeps(binding)]
    count = ScopeCount(module)
    for scopes in [*early, *_sets_in(others), *late, *_sets_in([item for item in items if is_plain_item(item)])]:
        if not count.fits(scopes):
            return False
    return True


def _has_variables(value, artifacts):
    many = {}
    for kind, level, number, _ in value[5]:
        if kind != "expr":
            if number != many.get((kind, level), 0):
                return False
            many[(kind, level)] = number + 1
    return True


class Bound:
    """Tells what the items of an artifact and of others define."""

    def __init__(self, artifact, artifacts):
        self.module = artifact[1]
        self.artifacts = {name: artifacts[name] for name in artifacts}
        self.artifacts[self.module] = artifact
        # What the items of a module define, by its name: dicts of (kind, level, number).
        self.defined_by = {}

    def defines(self, module, key):
        """Tell whether a module has an item (kind, level, number)."""
        if module not in self.artifacts:
            return False
        if module not in self.defined_by:
            items = self.artifacts[module][5]
            self.defined_by[module] = {(kind, level, number): True for kind, level, number, _ in items}
        return key in self.defined_by[module]

    def has(self, target):
        """Tell whether there is what a target or the beginning of a top term names."""
        if not is_of_module(target):
            return target[1] == self.module
        return self.defines(target[1], (ITEM_KINDS[target[0]], target[2], target[3]))


def _has_targets(value, artifacts):
    _, _, _, offers, bindings, items = value
    targets = [offer[2] for offer in offers]
    targets.extend([binding[3] for binding in bindings])
    for item in items:
        targets.extend([term[:4] for term in terms_in(item[3]) if term[0] == "top"])
    bound = Bound(value, artifacts)
    for target in targets:
        if not bound.has(target):
            return False
    return True


def _has_bindings(value, artifacts):
    keeper = Keeper(value[5])
    for binding in value[4]:
        if not keeper.keeps(binding):
            return False
    return _are_different([binding[:3] for binding in value[4]])


def _has_offers(value, artifacts):
    for offer in value[3]:
        if not is_of_module(offer[2]):
            return False
    return _are_different([offer[:2] for offer in value[3]])


CONDITIONS = (
    ("terms", _has_terms), ("uses", _has_uses), ("scopes", _has_scopes), ("variables", _has_variables),
    ("targets", _has_targets), ("bindings", _has_bindings), ("offers", _has_offers),
)


def fault(value, artifacts):
    """Return the code of the first fault of a tuple as an artifact, or None if it is in order."""
    if not _has_form(value):
        return "form"
    for code, holds in CONDITIONS:
        if not holds(value, artifacts):
            return code
    return None
