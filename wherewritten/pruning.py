"""Pruning: leaving those items of a program that it does not need."""

from wherewritten.linking import linked, program_text, run_plainly
from wherewritten.walking import terms_in

# The kinds of terms with which nothing happens when they are evaluated.
IDLE_KINDS = ("const", "prim", "fn", "syntax", "rules", "pattern", "template")


def is_idle_term(term):
    """Tell whether nothing happens when a term is evaluated, and it gives a value."""
    return term[0] in IDLE_KINDS


class Need:
    """Finds the needed items of a program; items are told by (index of the module, index of the item)."""

    def __init__(self, rows):
        self.rows = rows
        # The places of the def items, by their variables.
        self.definitions = {}
        self.found = {}
        # The items whose terms are still to be looked at.
        self.left = []

    def take(self, place):
        """Take an item that is needed."""
        if place not in self.found:
            self.found[place] = True
            self.left.append(place)

    def begin(self):
        """Take the items that are not idle."""
        for row, (module, items) in enumerate(self.rows):
            for at, (kind, level, number, term) in enumerate(items):
                if kind == "def":
                    self.definitions[(module, level, number)] = (row, at)
                if kind != "def" or not is_idle_term(term):
                    self.take((row, at))

    def go_on(self):
        """Take the items whose variables stand in those that were taken."""
        while self.left:
            row, at = self.left.pop()
            for term in terms_in(self.rows[row][1][at][3]):
                if term[0] == "top" and term[1:4] in self.definitions:
                    self.take(self.definitions[term[1:4]])


def _needed_places(rows):
    """Return the list of the pairs (index of the module, index of the item) of the needed items, in order."""
    need = Need(rows)
    need.begin()
    need.go_on()
    return sorted(list(need.found))


def _pruned_rows(rows):
    """Return a program without the items that it does not need."""
    kept = [(module, []) for module, _ in rows]
    for row, at in _needed_places(rows):
        kept[row][1].append(rows[row][1][at])
    return kept


def needed(artifacts, main):
    """Return the list of the pairs (module, index of the item in the program's part of it) of the needed items."""
    rows = linked(artifacts, main)
    return [(rows[row][0], at) for row, at in _needed_places(rows)]


def pruned(artifacts, main):
    """Return the text of the program of the needed items."""
    return program_text(_pruned_rows(linked(artifacts, main)))


def run_pruned(artifacts, main, fuel):
    """Return what running the needed items gives."""
    return run_plainly(_pruned_rows(linked(artifacts, main)), fuel)
