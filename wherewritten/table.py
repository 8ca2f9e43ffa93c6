"""The table of a module that is compiled: core bindings, and those that are added."""

from wherewritten.resolving import resolve
from wherewritten.terms import primitives

LAST_PHASE = 3
CORE_SCOPE = ("core", 0, 0)
WORDS = (
    "fn", "if", "set", "let", "letrec", "do", "quote", "syntax", "rules", "letmac", "recmac", "def",
    "defmac", "up", "use", "offer", "only", "except", "rename", "as", "all", "match", "fill",
)


def is_macro(target):
    """Tell whether a target is a macro of any kind."""
    return target[0] in ("macro", "own")


def is_core(target):
    """Tell whether a target is a word or a primitive procedure."""
    return target[0] in ("word", "prim")


class Table:
    """A table in which each binding has a giver: (phase, name, set, target, giver or None)."""

    def __init__(self):
        # The bindings that were added to those of core, in order.
        self.rows = []
        self.by_name = {}
        self.targets = {}
        # What resolving told, by names, and then by phases and sets.
        self.told_before = {}
        for phase in range(LAST_PHASE + 1):
            for word in WORDS:
                self.enter((phase, word, (CORE_SCOPE,), ("word", word), None))
            for name in primitives():
                self.enter((phase, name, (CORE_SCOPE,), ("prim", name), None))

    def enter(self, row):
        """Let resolving find a binding."""
        phase, name, scopes, target, _ = row
        self.by_name.setdefault(name, []).append(row)
        self.targets[(phase, name, scopes)] = target
        self.told_before[name] = {}

    def put_row(self, row):
        """Add a binding."""
        self.enter(row)
        self.rows.append(row)

    def target_at(self, phase, name, scopes):
        """Return the target of the binding with this very phase, name and set, or None."""
        return self.targets.get((phase, name, scopes))

    def resolved(self, phase, identifier):
        """Return (kind of the outcome, target, giver); these two are None if it is not bound."""
        name = identifier[1]
        if name not in self.by_name:
            return ("unbound", None, None)
        known = self.told_before[name]
        key = (phase, identifier[3])
        if key not in known:
            rows = self.by_name[name]
            outcome = resolve(rows, phase, identifier)
            if outcome[0] == "bound":
                row = rows[outcome[1]]
                known[key] = ("bound", row[3], row[4])
            else:
                known[key] = (outcome[0], None, None)
        return known[key]

    def bound_names(self, phase, scopes):
        """Return the ascending list of the names of which an identifier with a set is bound at a phase."""
        found = []
        for name in sorted(list(self.by_name)):
            # Where an identifier was written does not matter for what it is bound to.
            if self.resolved(phase, ("id", name, None, scopes))[0] == "bound":
                found.append(name)
        return found
