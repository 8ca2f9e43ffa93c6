"""Showing: the texts of data."""


def show_atom(kind, value):
    """Return the text of what is no list, by its kind and its value."""
    if kind == "number":
        return str(value)
    if kind == "flag":
        return "#t" if value else "#f"
    if kind == "text":
        return "\"" + value + "\""
    if kind == "dots":
        return "..."
    if kind == "wild":
        return "_"
    return value


def show(datum):
    """Return the text of a datum."""
    if datum[0] != "list":
        return show_atom(datum[0], datum[1])
    shown = []
    for part in datum[1]:
        shown.append(show(part))
    return "(" + " ".join(shown) + ")"


def show_text(forms):
    """Return the text of a tuple of data, each on a line of its own."""
    lines = []
    for form in forms:
        lines.append(show(form) + "\n")
    return "".join(lines)


def count_data(datum):
    """Return how many data a datum has, itself included."""
    many = 1
    if datum[0] == "list":
        for part in datum[1]:
            many += count_data(part)
    return many


def deepest(datum):
    """Return how deep lists are in a datum: 0 if it is no list."""
    if datum[0] != "list":
        return 0
    deep = 0
    for part in datum[1]:
        deep = max(deep, deepest(part))
    return deep + 1
