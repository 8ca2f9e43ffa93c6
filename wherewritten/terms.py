"""Terms, and their texts."""

from wherewritten.procedures import PRIMITIVES
from wherewritten.showing import show_atom
from wherewritten.values import shown, value_of


def primitives():
    """Return the ascending list of the names of the primitive procedures."""
    return sorted(list(PRIMITIVES))


def show_plain(value):
    """Return the shown plain value."""
    return shown(value_of(value))


def _show_syntax(syntax, numbers):
    """Return the text of syntax; the identifiers of a dict of numbers are variables of a template."""
    if syntax[0] == "atom":
        return show_atom(syntax[1], syntax[2])
    if syntax[0] == "id":
        key = (syntax[1], syntax[3])
        if key in numbers:
            return "$" + str(numbers[key])
        module, place = syntax[2]
        return f"{module}@{place}"
    return "(" + _show_parts(syntax[1], numbers) + ")"


def _show_parts(parts, numbers):
    shown_parts = []
    for part in parts:
        shown_parts.append(_show_syntax(part, numbers))
    return " ".join(shown_parts)


def _show_const(plain):
    text = show_plain(plain)
    return f"(quote {text})" if plain[0] == "list" else text


def _show_syntax_in(term):
    """Return the text of a term with syntax in it."""
    kind = term[0]
    numbers = {}
    if kind == "template":
        for name, scopes, number, _ in term[2]:
            numbers[(name, scopes)] = number
    parts = (term[1],)
    if kind == "rules":
        parts = term[1][1][1:]
    elif kind == "pattern":
        parts = term[1][1]
    return "(" + kind + " " + _show_parts(parts, numbers) + ")"


class Names:
    """The names of the variables in a text of terms."""

    def __init__(self, tops):
        # Those of local variables by their numbers, and some of modules by (module, level, number).
        self.local_names = {}
        self.top_names = {key: tops[key] for key in tops}

    def give(self, variables):
        """Give local variables the next names, and return these with spaces between them."""
        for variable in variables:
            self.local_names[variable] = f"v{len(self.local_names)}"
        return " ".join([self.local_names[variable] for variable in variables])

    def name_of_top(self, term):
        """Return the name of a variable of a module."""
        _, module, level, number, _ = term
        if (module, level, number) in self.top_names:
            return self.top_names[(module, level, number)]
        return f"{module}:{level}:{number}"


def _show_leaf(term, names):
    """Return the text of a term without terms in it."""
    kind = term[0]
    if kind == "local":
        return names.local_names[term[1]]
    if kind == "top":
        return names.name_of_top(term)
    if kind == "const":
        return _show_const(term[1])
    if kind == "prim":
        return term[1]
    return _show_syntax_in(term)


def _show_rec(term, names):
    names.give([variable for variable, _ in term[1]])
    pieces = ["(letrec ("]
    for at, (variable, part) in enumerate(term[1]):
        pieces.extend([" (" if at > 0 else "(", names.local_names[variable], " ", part, ")"])
    return [*pieces, ") ", term[2], ")"]


def _spaced(begin, terms):
    """Return the pieces of a list of terms behind the text with which it begins."""
    pieces = [begin]
    for at, term in enumerate(terms):
        if at > 0:
            pieces.append(" ")
        pieces.append(term)
    return [*pieces, ")"]


def _pieces_of(term, names):
    """Return the texts and terms of which the text of a term is made; new variables get names."""
    kind = term[0]
    if kind == "fn":
        return ["(fn (" + names.give(term[1]) + ") ", term[2], ")"]
    if kind == "call":
        return _spaced("(", (term[1], *term[2]))
    if kind == "if":
        return _spaced("(if ", term[1:])
    if kind == "do":
        return _spaced("(do ", term[1])
    if kind == "set":
        return _spaced("(set ", term[1:])
    if kind == "rec":
        return _show_rec(term, names)
    return [_show_leaf(term, names)]


def show_named(term, tops):
    """Return the shown term, with a dict of the names of variables of modules by (module, level, number)."""
    names = Names(tops)
    texts = []
    left = [term]
    while left:
        piece = left.pop()
        if isinstance(piece, str):
            texts.append(piece)
        else:
            left.extend(_pieces_of(piece, names)[::-1])
    return "".join(texts)


def show_term(term):
    """Return the shown term."""
    return show_named(term, {})
