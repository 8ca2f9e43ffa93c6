"""What is noted while a module is compiled: what names meant, and what refers to what."""

from wherewritten.errors import ExpandError
from wherewritten.syntax import occurrence_of
from wherewritten.table import is_core, is_macro


def _same_outcomes(first, second, one, other):
    """Tell whether two identifiers with these outcomes are the same reference; None if it cannot be told."""
    if one[0] == "ambiguous" or other[0] == "ambiguous":
        return None
    if one[0] == "bound" and other[0] == "bound":
        return one[1] == other[1]
    if one[0] == "bound" or other[0] == "bound":
        return False
    return first[1] == second[1]


class Record:
    """Resolves identifiers in a table, and notes what came of it."""

    def __init__(self, table):
        self.meanings = table
        # What is looked at again at the end of a pass: (phase, identifier, None, target or None),
        # or (phase, first, second, what was told) for a comparison.
        self.log = []
        # What was resolved of each occurrence: dicts whose keys are the entries of its tale.
        self.tales = {}
        self.arrow_pairs = {}
        self.link_pairs = {}
        self.fixed_places = {}

    def note(self, phase, identifier, told):
        """Note what resolving an identifier told."""
        kind, target, giver = told
        occurrence = occurrence_of(identifier)
        self.log.append((phase, identifier, None, target))
        tale = self.tales.setdefault(occurrence, {})
        tale[(phase, identifier[3], kind, target)] = True
        if giver is not None:
            self.note_arrow(occurrence, giver)
        elif target is not None and is_core(target):
            self.fix(occurrence)

    def look(self, phase, identifier):
        """Resolve an identifier, note it, and return (kind of the outcome, target, giver)."""
        told = self.meanings.resolved(phase, identifier)
        self.note(phase, identifier, told)
        return told

    def compare(self, phase, first, second):
        """Tell whether two identifiers are the same reference, and note it; None if it cannot be told."""
        one = self.look(phase, first)
        other = self.look(phase, second)
        told = _same_outcomes(first, second, one, other)
        self.log.append((phase, first, second, told))
        if told and one[0] != "bound":
            self.link(first, second)
        return told

    def link(self, first, second):
        """Note that two identifiers with the same name were found to be equal."""
        pair = tuple(sorted([occurrence_of(first), occurrence_of(second)]))
        if pair[0] != pair[1]:
            self.link_pairs[pair] = True

    def note_arrow(self, use, giver):
        """Note that what was written at an occurrence refers to what another one gives."""
        if use != giver:
            self.arrow_pairs[(use, giver)] = True

    def fix(self, occurrence):
        """Note that the name at an occurrence cannot become another one."""
        self.fixed_places[occurrence] = True

    def check_late(self, start):
        """Look again at all that was noted from an index of the log on."""
        for phase, first, second, before in self.log[start:]:
            now = self.meanings.resolved(phase, first)
            if second is not None:
                other = self.meanings.resolved(phase, second)
                is_late = _same_outcomes(first, second, now, other) != before
            elif before is None:
                is_late = now[0] == "bound" and (now[1][0] == "word" or is_macro(now[1]))
            else:
                is_late = now[1] != before
            if is_late:
                raise ExpandError("late", occurrence_of(first))
