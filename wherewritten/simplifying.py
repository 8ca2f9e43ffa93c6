"""Simplifying: terms that do the same with fewer terms begun.

Each variable is bound at one place of a term, so what is known of it holds everywhere in the term.
"""

from wherewritten.errors import RunError
from wherewritten.expanding import NoExpansion
from wherewritten.procedures import PRIMITIVES, apply_primitive
from wherewritten.pruning import is_idle_term
from wherewritten.values import PLAIN_KINDS, value_of
from wherewritten.walking import rebuilt, terms_in

# The primitive procedures whose calls with consts are done at once.
FOLDED = ("+", "-", "*", "<", "=", "not", "number?", "flag?", "text?", "list?", "empty?", "same?")


def _takes(term):
    """Tell whether a term is a call of a fn with as many arguments as it takes."""
    return term[0] == "call" and term[1][0] == "fn" and len(term[1][1]) == len(term[2])


def _folded(term):
    """Return the term of what a call of a primitive procedure with consts gives, or None if it is none."""
    _, first, rest, occurrence = term
    if first[0] != "prim" or first[1] not in FOLDED or len(rest) != len(PRIMITIVES[first[1]][0]):
        return None
    for part in rest:
        if part[0] != "const":
            return None
    try:
        value = apply_primitive(first[1], [value_of(part[1]) for part in rest], occurrence, NoExpansion())
    except RunError:
        return None
    return ("const", value) if value[0] in PLAIN_KINDS else None


def _chosen(term):
    """Return the term that an if comes to, or None if that is not known."""
    if not is_idle_term(term[1]):
        return None
    return term[3] if term[1] == ("const", ("flag", False)) else term[2]


class Simplifier:
    """Makes a term simpler once, by what is known of its variables before."""

    def __init__(self, term):
        # The variables that are bound by a fn and that no set names, and those that stand anywhere.
        self.fixed_ones = {}
        self.standing = {}
        # What stands in place of variables.
        self.instead = {}
        # Whether anything became simpler.
        self.is_other = False
        terms = terms_in(term)
        for part in terms:
            if part[0] == "fn":
                for variable in part[1]:
                    self.fixed_ones[variable] = True
        for part in terms:
            if part[0] == "local":
                self.standing[part[1]] = True
            elif part[0] == "set" and part[1][0] == "local":
                self.fixed_ones.pop(part[1][1], None)
        for part in terms:
            if _takes(part):
                self.take_arguments(part)

    def is_fixed(self, term):
        """Tell whether a term is a fixed local variable."""
        return term[0] == "local" and term[1] in self.fixed_ones

    def take_arguments(self, call):
        """Keep what can stand in place of the variables of a fn that is called."""
        for variable, part in zip(call[1][1], call[2]):
            if variable in self.fixed_ones and (part[0] in ("const", "prim") or self.is_fixed(part)):
                self.instead[variable] = part

    def simpler(self, term):
        """Return a term whose parts are as simple as they get now, made simpler."""
        kind = term[0]
        made = None
        if kind == "local":
            made = self.instead_of(term)
        elif kind == "if":
            made = _chosen(term)
        elif kind == "do":
            made = self.simpler_do(term)
        elif kind == "call":
            made = self.simpler_call(term) if _takes(term) else _folded(term)
        elif kind == "rec":
            made = self.simpler_rec(term)
        if made is None:
            return term
        self.is_other = True
        return made

    def instead_of(self, term):
        """Return what stands in place of a local variable, or None; a variable gets its occurrence."""
        if term[1] not in self.instead:
            return None
        made = self.instead[term[1]]
        while made[0] == "local" and made[1] in self.instead:
            made = self.instead[made[1]]
        return ("local", made[1], term[2]) if made[0] == "local" else made

    def simpler_do(self, term):
        """Return a do without what does nothing, or None if it is as simple as that."""
        parts = []
        for part in term[1]:
            parts.extend(part[1] if part[0] == "do" else (part,))
        kept = [part for part in parts[:-1] if not is_idle_term(part) and not self.is_fixed(part)]
        kept.append(parts[-1])
        if len(kept) == 1:
            return kept[0]
        has_dos = any([part[0] == "do" for part in term[1]])
        return ("do", tuple(kept)) if has_dos or len(kept) < len(parts) else None

    def simpler_call(self, term):
        """Return a call of a fn without arguments for which something stands in place; None if it has none."""
        _, procedure, rest, occurrence = term
        numbers, parts = [], []
        for variable, part in zip(procedure[1], rest):
            if variable not in self.instead:
                numbers.append(variable)
                parts.append(part)
        if not numbers:
            return procedure[2]
        if len(numbers) == len(rest):
            return None
        return ("call", ("fn", tuple(numbers), procedure[2]), tuple(parts), occurrence)

    def simpler_rec(self, term):
        """Return a rec without variables that stand nowhere and are bound to idle terms; None if it has none."""
        pairs = []
        for variable, part in term[1]:
            if variable in self.standing or not is_idle_term(part):
                pairs.append((variable, part))
        if not pairs:
            return term[2]
        return ("rec", tuple(pairs), term[2]) if len(pairs) < len(term[1]) else None


def simplified(term):
    """Return a term that is as good, and in which nothing can be made simpler."""
    while True:
        simplifier = Simplifier(term)
        term = rebuilt(term, simplifier.simpler)
        if not simplifier.is_other:
            return term


def simplified_artifact(artifact):
    """Return an artifact in which the terms of all items of level 0 but macros are simplified."""
    word, name, uses, offers, bindings, items = artifact
    made = []
    for kind, level, number, term in items:
        made.append((kind, level, number, simplified(term) if level == 0 and kind != "mac" else term))
    return (word, name, uses, offers, bindings, tuple(made))
