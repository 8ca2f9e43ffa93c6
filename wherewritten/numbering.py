"""Making artifacts: what is kept of a compiled module, with scopes that are numbered anew."""

from wherewritten.interfaces import Keeper
from wherewritten.syntax import identifiers
from wherewritten.walking import syntax_in, with_sets


def is_plain_item(item):
    """Tell whether an item is one that only programs evaluate."""
    return item[0] != "mac" and item[1] == 0


class Numbering:
    """Gives the scopes of a module new numbers, in the order in which sets are gone through."""

    def __init__(self, module):
        self.module = module
        self.numbers = {}

    def is_own(self, scope):
        """Tell whether a scope is one of the module itself."""
        return scope[0] == self.module and scope[2] == 0

    def go_through(self, scopes):
        """Go through a set."""
        for scope in scopes:
            if self.is_own(scope) and scope not in self.numbers:
                self.numbers[scope] = (self.module, len(self.numbers), 0)

    def go_through_items(self, items):
        """Go through the sets in the syntax of some items."""
        for item in items:
            for syntax in syntax_in(item[3]):
                for identifier in identifiers(syntax):
                    self.go_through(identifier[3])


def _renumbered(scopes, numbers):
    return tuple(sorted([numbers.get(scope, scope) for scope in scopes]))


def make_artifact(module, uses, offers, bindings, items):
    """Return the artifact of a module; the bindings are those that were made or imported in it."""
    keeper = Keeper(items)
    kept = [binding for binding in bindings if keeper.keeps(binding)]
    others = [item for item in items if not is_plain_item(item)]
    plain = [item for item in items if is_plain_item(item)]
    seen_by_others = Keeper(others)
    numbering = Numbering(module)
    for binding in kept:
        if seen_by_others.keeps(binding):
            numbering.go_through(binding[2])
    numbering.go_through_items(others)
    for binding in kept:
        numbering.go_through(binding[2])
    numbering.go_through_items(plain)
    numbers = numbering.numbers
    new_bindings, new_items = [], []
    for phase, name, scopes, target, giver in kept:
        new_bindings.append((phase, name, _renumbered(scopes, numbers), target, giver))
    for kind, level, number, term in items:
        new_items.append((kind, level, number, with_sets(term, _renumbered, numbers)))
    return ("module", module, tuple(uses), tuple(offers), tuple(new_bindings), tuple(new_items))
