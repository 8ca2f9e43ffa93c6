"""Programs written out as the text of one module."""

from wherewritten.errors import StoreError
from wherewritten.linking import linked
from wherewritten.matches import DEEPEST_EXPRESSION
from wherewritten.reading import DEEPEST_LIST, LONGEST_TEXT
from wherewritten.terms import show_named
from wherewritten.walking import parts_of_term, syntax_in


def _depth_of_brackets(text):
    """Return how deep lists are in a text without remarks."""
    deep, deepest = 0, 0
    is_in_string = False
    for sign in text:
        if sign == "\"":
            is_in_string = not is_in_string
        elif sign == "(" and not is_in_string:
            deep += 1
            deepest = max(deepest, deep)
        elif sign == ")" and not is_in_string:
            deep -= 1
    return deepest


def _depth_of_expressions(term):
    """Return in how many others an expression of a shown term stands at most."""
    deepest = 0
    # The terms that are left, in how many others they stand, and whether they are all of a body.
    left = [(term, 0, False)]
    while left:
        part, around, is_body = left.pop()
        deepest = max(deepest, around)
        # The parts of a do that is a form of a body are forms of this body.
        is_spliced = part[0] == "do" and is_body
        parts = parts_of_term(part)
        for at, one in enumerate(parts):
            ends_list = part[0] in ("fn", "rec") and at + 1 == len(parts)
            left.append((one, around if is_spliced else around + 1, is_spliced or ends_list))
    return deepest


def _item_line(item, names, module):
    kind, level, number, term = item
    shown_term = show_named(term, names)
    if kind == "def":
        return f"(def {names[(module, level, number)]} {shown_term})\n"
    return shown_term + "\n"


def _names_of(rows):
    """Return the names of the variables with def items in a program."""
    names = {}
    for module, items in rows:
        for kind, level, number, _ in items:
            if kind == "def":
                names[(module, level, number)] = f"t{len(names)}"
    return names


def written_out(artifacts, main):
    """Return the text of one module that does what the program of a main module does."""
    rows = linked(artifacts, main)
    terms = []
    for _, items in rows:
        terms.extend([item[3] for item in items])
    for term in terms:
        if syntax_in(term):
            raise StoreError("syntax")
    names = _names_of(rows)
    lines = []
    for module, items in rows:
        lines.extend([_item_line(item, names, module) for item in items])
    text = "".join(lines)
    expressions = max([_depth_of_expressions(term) for term in terms], default=0)
    if _depth_of_brackets(text) > DEEPEST_LIST or expressions > DEEPEST_EXPRESSION:
        raise StoreError("deep")
    if len(text) > LONGEST_TEXT:
        raise StoreError("long")
    return text
