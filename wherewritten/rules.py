"""Rules: clauses of a pattern and a template, and what they make of uses."""

from wherewritten.errors import RulesError
from wherewritten.patterns import Matcher, PatternMaker
from wherewritten.syntax import occurrence_of
from wherewritten.templates import Template


def _is_list_of(syntax, least):
    return syntax[0] == "list" and len(syntax[1]) >= least


def _literals_of(syntax):
    if syntax[0] != "list":
        raise RulesError("form", occurrence_of(syntax))
    for part in syntax[1]:
        if part[0] != "id":
            raise RulesError("form", occurrence_of(syntax))
    return syntax[1]


class Clause:
    """A pattern and a template, with some literals."""

    def __init__(self, syntax, literals):
        if syntax[0] != "list" or len(syntax[1]) != 2:
            raise RulesError("form", occurrence_of(syntax))
        pattern, template = syntax[1]
        if not _is_list_of(pattern, 1):
            raise RulesError("form", occurrence_of(pattern))
        maker = PatternMaker(literals)
        self.pattern = ("list", maker.made_row(pattern[1][1:], 0))
        self.bound = tuple(maker.bound)
        numbers = {}
        for number, (identifier, deep) in enumerate(maker.bound):
            numbers[(identifier[1], identifier[3])] = (number, deep)
        self.template = Template(template, numbers)


class Rules:
    """The rules of a rules form."""

    def __init__(self, form):
        if not _is_list_of(form, 2):
            raise RulesError("form", occurrence_of(form))
        literals = _literals_of(form[1][1])
        clauses = []
        for syntax in form[1][2:]:
            clauses.append(Clause(syntax, literals))
        self.clauses = tuple(clauses)

    def matched(self, use, same):
        """Return the pair of the index of the clause that matches and what its variables get, or None."""
        if not _is_list_of(use, 1):
            return None
        parts = ("list", use[1][1:], use[2])
        for index, clause in enumerate(self.clauses):
            matcher = Matcher(same)
            got = matcher.match(clause.pattern, parts)
            if got is not None:
                return (index, got)
        return None

    def apply(self, use, same):
        """Return what the rules make of a use."""
        found = self.matched(use, same)
        if found is None:
            raise RulesError("match", occurrence_of(use))
        index, got = found
        return self.clauses[index].template.fill(got, occurrence_of(use))

    def clause_of(self, use, same):
        """Return the index of the clause that matches a use, or None."""
        found = self.matched(use, same)
        return None if found is None else found[0]

    def variables(self, index):
        """Return the list of the pairs of the occurrence of a variable of a clause and its depth."""
        return [(occurrence_of(identifier), deep) for identifier, deep in self.clauses[index].bound]

    def inserted(self, index):
        """Return the list of the occurrences of the identifiers of a template that stand for themselves."""
        return list(self.clauses[index].template.standing)
