"""Templates: compiling them, and filling them with what variables got.

A compiled template is a tuple: ("self", syntax), ("variable", number, depth) or
("list", parts, occurrence, dotted). A part of a list is a tuple (template, dots, first, inside):
how many dots stand behind it, the occurrence of the first of them or None, and the numbers of
the variables in it that these dots repeat. The dotted parts are those with dots in or behind them.
"""

from wherewritten.errors import RulesError
from wherewritten.syntax import DEEPEST_SYNTAX, LARGEST_SYNTAX, depth, is_dots, occurrence_of, size


def _many_dots(parts, at):
    """Return how many dots stand in a row from an index on."""
    end = at
    while end < len(parts) and is_dots(parts[end]):
        end += 1
    return end - at


def _has_dots(template):
    """Tell whether dots in a compiled template repeat something."""
    return template[0] == "list" and len(template[3]) > 0


def _list_of(parts, occurrence):
    dotted = [part for part in parts if part[1] > 0 or _has_dots(part[0])]
    return ("list", tuple(parts), occurrence, tuple(dotted))


class TemplateMaker:
    """Compiles a template for variables: a dict from (name, set) to (number, depth)."""

    def __init__(self, variables):
        self.known = {key: variables[key] for key in variables}
        # The occurrences of the identifiers that stand for themselves.
        self.standing = []
        # The numbers of the variables of a depth of at least 1, as they are met.
        self.met = []

    def made(self, syntax, around):
        """Return the compiled template of syntax that some dots around it repeat."""
        if syntax[0] == "id":
            return self.made_of_identifier(syntax, around)
        if syntax[0] == "list":
            return self.made_of_list(syntax, around)
        if is_dots(syntax):
            raise RulesError("dots", occurrence_of(syntax))
        return ("self", syntax)

    def made_of_identifier(self, identifier, around):
        """Return the compiled template of an identifier: a variable, or one for itself."""
        key = (identifier[1], identifier[3])
        if key not in self.known:
            self.standing.append(occurrence_of(identifier))
            return ("self", identifier)
        number, deep = self.known[key]
        if deep > 0:
            if deep != around:
                raise RulesError("depth", occurrence_of(identifier))
            self.met.append(number)
        return ("variable", number, deep)

    def made_of_list(self, syntax, around):
        """Return the compiled template of a list, in which dots repeat."""
        parts = syntax[1]
        if parts and is_dots(parts[0]):
            if len(parts) != 2:
                raise RulesError("dots", occurrence_of(parts[0]))
            return self.made_plainly(parts[1], around)
        made = []
        at = 0
        while at < len(parts):
            many = _many_dots(parts, at + 1)
            before = len(self.met)
            template = self.made(parts[at], around + many)
            inside = tuple(sorted(set(self.met[before:])))
            if many > 0 and not inside:
                raise RulesError("dots", occurrence_of(parts[at + 1]))
            first = occurrence_of(parts[at + 1]) if many > 0 else None
            made.append((template, many, first, inside))
            at += 1 + many
        return _list_of(made, syntax[2])

    def made_plainly(self, syntax, around):
        """Return the compiled template of syntax in which dots stand for themselves."""
        if syntax[0] == "id":
            return self.made_of_identifier(syntax, around)
        if syntax[0] == "atom":
            return ("self", syntax)
        made = []
        for part in syntax[1]:
            made.append((self.made_plainly(part, around), 0, None, ()))
        return _list_of(made, syntax[2])


def _measured(got, deep):
    """Return what a variable of a depth got, with (size, depth) in place of syntax."""
    if deep == 0:
        return (size(got), depth(got))
    return [_measured(once, deep - 1) for once in got]


def _many_copies(part, got):
    """Return how often a part is repeated by the outermost dots that are left behind it."""
    counts = [len(got[number]) for number in part[3]]
    if min(counts) != max(counts):
        raise RulesError("lengths", part[2])
    return counts[0]


def _of_copy(part, got, at):
    """Return what the variables that repeat a part have in one of its copies."""
    return {number: got[number][at] for number in part[3]}


class Measure:
    """Adds up how large a result gets, without making it: it may be greater than anybody can make."""

    def __init__(self, got, depths):
        # What the variables of depth 0 have is the same in all copies.
        self.once = {number: _measured(got[number], 0) for number in depths if depths[number] == 0}
        self.rows = {number: _measured(got[number], depths[number]) for number in depths if depths[number] > 0}
        self.many = 0
        self.deepest = 0

    def is_over(self):
        """Tell whether the result is too large already."""
        return self.many > LARGEST_SYNTAX or self.deepest > DEEPEST_SYNTAX

    def add_up(self, many, deep):
        """Add the size of some syntax, and how deep the lists around and in it are."""
        self.many += many
        self.deepest = max(self.deepest, deep)

    def look(self, template, rows, around):
        """Look at what is made of a template that stands in some lists."""
        if template[0] == "self":
            self.add_up(1, around)
        elif template[0] == "variable":
            many, deep = rows[template[1]] if template[2] > 0 else self.once[template[1]]
            self.add_up(many, around + deep)
        else:
            self.add_up(1, around + 1)
            # If it is too large, only dots matter any more: lengths may be wrong at them.
            parts = template[3] if self.is_over() else template[1]
            for part in parts:
                self.look_at_part(part, part[1], rows, around + 1)

    def look_at_part(self, part, dots, rows, around):
        """Look at what is made of a part of a list, with some of its dots left."""
        if dots == 0:
            self.look(part[0], rows, around)
            return
        many = _many_copies(part, rows)
        if dots == 1 and self.is_over() and not _has_dots(part[0]):
            return
        for at in range(many):
            self.look_at_part(part, dots - 1, _of_copy(part, rows, at), around)


def _filled(template, rows, once):
    """Return the syntax that is made of a template."""
    if template[0] == "self":
        return template[1]
    if template[0] == "variable":
        return rows[template[1]] if template[2] > 0 else once[template[1]]
    parts = []
    for part in template[1]:
        _put_copies(part, part[1], rows, once, parts)
    return ("list", tuple(parts), template[2])


def _put_copies(part, dots, rows, once, parts):
    """Put what is made of a part of a list, with some of its dots left, behind some parts."""
    if dots == 0:
        parts.append(_filled(part[0], rows, once))
        return
    for at in range(_many_copies(part, rows)):
        _put_copies(part, dots - 1, _of_copy(part, rows, at), once, parts)


class Template:
    """A template for variables: a dict from (name, set) to (number, depth)."""

    def __init__(self, syntax, variables):
        maker = TemplateMaker(variables)
        self.root = maker.made(syntax, 0)
        # The occurrences of the identifiers that stand for themselves.
        self.standing = tuple(maker.standing)
        # The depths of the variables, by their numbers.
        self.depths = {number: deep for number, deep in variables.values()}

    def fill(self, got, occurrence):
        """Return the syntax for what the variables got; an error of its size has the occurrence."""
        measure = Measure(got, self.depths)
        measure.look(self.root, measure.rows, 0)
        if measure.is_over():
            raise RulesError("size", occurrence)
        return _filled(self.root, got, got)
