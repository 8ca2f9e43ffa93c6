"""What others see of an artifact, and the sets of scopes in artifacts.

An artifact is a tuple ("module", name, uses, offers, bindings, items).
"""

from wherewritten.syntax import identifiers
from wherewritten.table import LAST_PHASE
from wherewritten.walking import syntax_in


def phase_of_item(item, shift):
    """Return the phase at which an item is evaluated in the instance with a shift."""
    return shift + item[1] + (1 if item[0] == "mac" else 0)


def is_of_module(target):
    """Tell whether a target is a variable or a macro of a module."""
    return target[0] in ("top", "macro")


def _sets_of(items):
    """Return a dict whose keys are the sets of the identifiers in some items, in order."""
    found = {}
    for item in items:
        for syntax in syntax_in(item[3]):
            for identifier in identifiers(syntax):
                found[identifier[3]] = True
    return found


class Keeper:
    """Tells which bindings are kept because of some items."""

    def __init__(self, items):
        # The sets of identifiers in the items, by the scopes in them.
        self.by_scope = {}
        found = _sets_of(items)
        self.has_sets = len(found) > 0
        for scopes in found:
            for scope in scopes:
                self.by_scope.setdefault(scope, []).append(scopes)

    def is_in_items(self, scopes):
        """Tell whether a set is included in that of an identifier in the items."""
        fewest = None
        for scope in scopes:
            if scope not in self.by_scope:
                return False
            if fewest is None or len(self.by_scope[scope]) < len(fewest):
                fewest = self.by_scope[scope]
        if fewest is None:
            return self.has_sets
        for large in fewest:
            if all(scope in large for scope in scopes):
                return True
        return False

    def keeps(self, binding):
        """Tell whether a binding is kept."""
        return is_of_module(binding[3]) or self.is_in_items(binding[2])


def interface_of(artifact, shift):
    """Return the artifact without what is of no use for those that make it ready for a shift."""
    word, name, uses, offers, bindings, items = artifact
    needed = tuple([item for item in items if 1 <= phase_of_item(item, shift) <= LAST_PHASE])
    keeper = Keeper(needed)
    kept = tuple([binding for binding in bindings if keeper.keeps(binding)])
    return (word, name, uses, offers, kept, needed)
