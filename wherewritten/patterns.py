"""Patterns: compiling them, and matching them to syntax.

A compiled pattern is a tuple: ("any",), ("literal", identifier), ("variable", number),
("atom", kind, value) or ("list", row). A row is what a list of patterns is compiled to:
a tuple (heads, repeated, tails, inside) of the patterns ahead of the repeated one, this one or
None, those behind the dots, and the numbers of the variables in the repeated one.
"""

from wherewritten.errors import RulesError
from wherewritten.syntax import is_dots, occurrence_of

DEEPEST_DOTS = 4


def _dots_of(parts, deep):
    """Return the index of the dots of a list of patterns that is deep dots deep, or None."""
    found = [at for at, part in enumerate(parts) if is_dots(part)]
    if not found:
        return None
    if found[0] == 0:
        raise RulesError("dots", occurrence_of(parts[0]))
    if len(found) > 1:
        raise RulesError("dots", occurrence_of(parts[found[1]]))
    if deep == DEEPEST_DOTS:
        raise RulesError("depth", occurrence_of(parts[found[0]]))
    return found[0]


class PatternMaker:
    """Compiles patterns with some literals, and keeps the variables that it meets."""

    def __init__(self, literals):
        self.literals = {}
        for literal in literals:
            self.literals.setdefault((literal[1], literal[3]), literal)
        # The variables, by their numbers: pairs (identifier, depth).
        self.bound = []
        self.seen = {}

    def made(self, syntax, deep):
        """Return the compiled pattern of syntax that deep dots repeat."""
        if syntax[0] == "id":
            return self.made_of_identifier(syntax, deep)
        if syntax[0] == "list":
            return ("list", self.made_row(syntax[1], deep))
        if syntax[1] == "wild":
            return ("any",)
        if syntax[1] == "dots":
            raise RulesError("dots", occurrence_of(syntax))
        return ("atom", syntax[1], syntax[2])

    def made_of_identifier(self, identifier, deep):
        """Return the compiled pattern of an identifier: a literal, or a new variable."""
        key = (identifier[1], identifier[3])
        if key in self.literals:
            return ("literal", self.literals[key])
        if key in self.seen:
            raise RulesError("double", occurrence_of(identifier))
        self.seen[key] = True
        self.bound.append((identifier, deep))
        return ("variable", len(self.bound) - 1)

    def made_row(self, parts, deep):
        """Return the compiled row of the parts of a list of patterns."""
        at = _dots_of(parts, deep)
        made = []
        inside = ()
        for k, part in enumerate(parts):
            if k + 1 == at:
                before = len(self.bound)
                made.append(self.made(part, deep + 1))
                inside = tuple(range(before, len(self.bound)))
            elif k != at:
                made.append(self.made(part, deep))
        if at is None:
            return (tuple(made), None, (), ())
        return (tuple(made[:at - 1]), made[at - 1], tuple(made[at:]), inside)


class Matcher:
    """Matches a compiled pattern to syntax, with a function that compares literals."""

    def __init__(self, same):
        self.same = same
        # What is left to match, the next on top: (pattern, syntax, what variables get).
        self.left = []
        # The repetitions that were met: (numbers of variables, what they get, what each copy gets).
        self.repetitions = []

    def match(self, pattern, syntax):
        """Return a dict of what the variables get, by their numbers; None without a match.

        A variable gets syntax, or a list of what it gets for each repetition.
        """
        got = {}
        self.left.append((pattern, syntax, got))
        while self.left:
            part, matched, place = self.left.pop()
            if not self.fits(part, matched, place):
                return None
        for inside, place, copies in self.repetitions[::-1]:
            for number in inside:
                place[number] = [once[number] for once in copies]
        return got

    def fits(self, pattern, syntax, got):
        """Tell whether a pattern fits syntax; the parts of lists are left for later."""
        kind = pattern[0]
        if kind == "variable":
            got[pattern[1]] = syntax
            return True
        if kind == "literal":
            return syntax[0] == "id" and self.is_literal(pattern[1], syntax)
        if kind == "atom":
            return syntax[0] == "atom" and syntax[1] == pattern[1] and syntax[2] == pattern[2]
        if kind == "list":
            return syntax[0] == "list" and self.fits_row(pattern[1], syntax[1], got)
        return True

    def is_literal(self, literal, identifier):
        """Tell whether an identifier is the same reference as a literal."""
        same = self.same
        told = same(literal, identifier)
        if told is None:
            raise RulesError("ambiguous", occurrence_of(identifier))
        return told

    def fits_row(self, row, parts, got):
        """Tell whether a row fits the number of the parts of a list; these are left for later."""
        heads, repeated, tails, inside = row
        many = len(parts) - len(heads) - len(tails)
        if many < 0 or (repeated is None and many > 0):
            return False
        copies = [{} for _ in range(many)]
        if repeated is not None:
            self.repetitions.append((inside, got, copies))
        patterns = [*heads, *[repeated for _ in range(many)], *tails]
        places = [*[got for _ in heads], *copies, *[got for _ in tails]]
        self.left.extend(list(zip(patterns, parts, places))[::-1])
        return True
