"""Linking modules to programs, and running these."""

from wherewritten.blocks import block_of
from wherewritten.errors import ModuleError
from wherewritten.expanding import NoExpansion
from wherewritten.machine import Machine
from wherewritten.terms import show_term
from wherewritten.values import shown


def order(artifacts, main):
    """Return the list of the modules of a main module, each behind those that it uses at level 0."""
    found, missing = [], []
    seen = {}
    # What is left to do, the next on top: (module, whether what it uses is done).
    left = [(main, False)]
    while left:
        name, is_ready = left.pop()
        if is_ready:
            found.append(name)
        elif name not in seen:
            seen[name] = True
            if name in artifacts:
                left.append((name, True))
                used = [(module, False) for module, level in artifacts[name][2] if level == 0]
                left.extend(used[::-1])
            else:
                missing.append(name)
    if missing:
        raise ModuleError("missing", tuple(sorted(missing)))
    return found


def linked(artifacts, main):
    """Return the program of a main module: the list of the pairs (module, list of its items in the program)."""
    found = []
    for module in order(artifacts, main):
        items = [item for item in artifacts[module][5] if item[0] != "mac" and item[1] == 0]
        found.append((module, items))
    return found


def _item_line(module, item):
    kind, level, number, term = item
    if kind == "def":
        return f"(def {module}:{level}:{number} {show_term(term)})\n"
    return show_term(term) + "\n"


def program_text(rows):
    """Return the text of a program."""
    lines = []
    for module, items in rows:
        lines.append(f"module {module}\n")
        for item in items:
            lines.append(_item_line(module, item))
    return "".join(lines)


def run_rows(machine, made, rows):
    """Return what a program gives on a machine that runs what a function makes of terms."""
    told = []
    for module, items in rows:
        for kind, level, number, term in items:
            value = machine.run(made(term))
            if kind == "def":
                machine.hold((module, 0, level, number), value)
            else:
                told.append((module, shown(value)))
    return told


def run_plainly(rows, fuel):
    """Return what a program gives with some fuel: the list of the pairs (module, shown value)."""
    return run_rows(Machine(fuel, NoExpansion()), block_of, rows)


def program(artifacts, main):
    """Return the text of the program of a main module."""
    return program_text(linked(artifacts, main))


def run(artifacts, main, fuel):
    """Return the list of the pairs (module, shown value) of the expressions of a program."""
    return run_plainly(linked(artifacts, main), fuel)
