"""Telling whether a value that may come from anywhere is a term."""

from wherewritten.errors import RulesError
from wherewritten.patterns import PatternMaker
from wherewritten.procedures import PRIMITIVES
from wherewritten.rules import Rules
from wherewritten.shapes import is_list_of_identifiers
from wherewritten.syntax import is_dots
from wherewritten.table import LAST_PHASE
from wherewritten.validity import (
    is_count, is_module_name, is_occurrence, is_plain_value, is_right_syntax, is_template_for, is_tuple_of,
)

DEEPEST_TERM = 220

# How many parts terms of each kind have, with the word.
PARTS = {
    "const": 2, "syntax": 2, "rules": 2, "pattern": 2, "template": 3, "local": 3, "top": 5, "prim": 2, "fn": 3,
    "call": 4, "if": 4, "do": 2, "rec": 3, "set": 3,
}
LEAVES = ("const", "syntax", "rules", "pattern", "template", "top", "prim")


def is_level(value):
    """Tell whether a value is a level or a phase."""
    return is_count(value) and value <= LAST_PHASE


def _is_rules_form(value):
    if not is_right_syntax(value):
        return False
    try:
        Rules(value)
    except RulesError:
        return False
    return True


def _is_pattern_form(value):
    if not is_right_syntax(value) or value[0] != "list" or len(value[1]) != 2:
        return False
    literals, pattern = value[1]
    if not is_list_of_identifiers(literals) or is_dots(pattern):
        return False
    try:
        PatternMaker(literals[1]).made(pattern, 0)
    except RulesError:
        return False
    return True


def _is_leaf(term):
    """Tell whether a tuple with the word and the number of parts of a term without terms in it is one."""
    kind = term[0]
    if kind == "const":
        return is_plain_value(term[1])
    if kind == "syntax":
        return is_right_syntax(term[1])
    if kind == "rules":
        return _is_rules_form(term[1])
    if kind == "pattern":
        return _is_pattern_form(term[1])
    if kind == "template":
        return is_right_syntax(term[1]) and is_template_for(term[1], term[2])
    if kind == "prim":
        return isinstance(term[1], str) and term[1] in PRIMITIVES
    return is_module_name(term[1]) and is_level(term[2]) and is_count(term[3]) and is_occurrence(term[4])


def _kind_of(value):
    """Return the word of a value that has as many parts as terms with it; None for others."""
    if not isinstance(value, tuple) or not value or not isinstance(value[0], str):
        return None
    return value[0] if PARTS.get(value[0]) == len(value) else None


def _are_pairs(value):
    if not isinstance(value, tuple):
        return False
    for pair in value:
        if not is_tuple_of(pair, 2):
            return False
    return True


class TermWalk:
    """Goes through a value that may be a term."""

    def __init__(self):
        # The local variables that were bound, and those that may be used where this stands now.
        self.bound = {}
        self.usable = {}
        # What is left, the next on top: pairs of a value and how deep it is, or of variables that
        # may not be used from there on and None.
        self.left = []

    def is_whole(self, value):
        """Tell whether a value is a term."""
        self.left.append((value, 1))
        while self.left:
            part, deep = self.left.pop()
            if deep is None:
                for number in part:
                    del self.usable[number]
            elif deep > DEEPEST_TERM or not self.fits(part, deep):
                return False
        return True

    def fits(self, part, deep):
        """Tell whether a value has the form of a term; the terms in it are left for later."""
        kind = _kind_of(part)
        if kind is None:
            return False
        if kind in LEAVES:
            return _is_leaf(part)
        if kind == "local":
            return is_count(part[1]) and part[1] in self.usable and is_occurrence(part[2])
        if kind == "fn":
            return self.binds(part[1], (part[2],), deep)
        if kind == "rec":
            if not _are_pairs(part[1]):
                return False
            return self.binds([pair[0] for pair in part[1]], [*[pair[1] for pair in part[1]], part[2]], deep)
        if kind == "set" and _kind_of(part[1]) not in ("local", "top"):
            return False
        if kind == "call":
            return is_occurrence(part[3]) and isinstance(part[2], tuple) and self.leave((part[1], *part[2]), deep)
        if kind == "do":
            return isinstance(part[1], tuple) and len(part[1]) > 0 and self.leave(part[1], deep)
        return self.leave(part[1:], deep)

    def leave(self, parts, deep):
        """Leave what stands in a term for later."""
        for one in parts[::-1]:
            self.left.append((one, deep + 1))
        return True

    def binds(self, numbers, parts, deep):
        """Tell whether some values are numbers of variables that can be bound for the parts of a term."""
        if not isinstance(numbers, (tuple, list)):
            return False
        for number in numbers:
            if not is_count(number) or number in self.bound:
                return False
            self.bound[number] = True
            self.usable[number] = True
        self.left.append((numbers, None))
        return self.leave(parts, deep)


def is_whole_term(value):
    """Tell whether a value is a term that stands in no other."""
    return TermWalk().is_whole(value)
