"""A store: the texts of modules, and what was built of them."""

from wherewritten.building import Building
from wherewritten.errors import ModuleError, StoreError
from wherewritten.linking import program, run
from wherewritten.reading import LONGEST_TEXT, is_name

MOST_OTHERS = 12


def _is_text(text):
    """Tell whether a text can be that of a module."""
    if len(text) > LONGEST_TEXT:
        return False
    for sign in text:
        if sign != "\n" and not " " <= sign <= "~":
            return False
    return True


class Store:
    """The texts of modules, and what was built of them."""

    def __init__(self):
        self.texts = {}
        # What was built last; this dict is never changed, only another one takes its place.
        self.built = {}

    def put(self, name, text):
        """Give a module a text."""
        if not is_name(name) or name == "core":
            raise StoreError("name")
        if name not in self.texts and len(self.texts) >= MOST_OTHERS:
            raise StoreError("many")
        if not _is_text(text):
            raise StoreError("long")
        self.texts[name] = text

    def demand(self, name):
        """Raise an error unless a module has a text."""
        if name not in self.texts:
            raise StoreError("absent")

    def drop(self, name):
        """Take the text of a module out, and what was built of it."""
        self.demand(name)
        del self.texts[name]
        self.built = {other: self.built[other] for other in self.built if other != name}

    def names(self):
        """Return the ascending list of the names of the modules."""
        return sorted(list(self.texts))

    def text(self, name):
        """Return the text of a module."""
        self.demand(name)
        return self.texts[name]

    def build(self, main):
        """Build a main module, and return the report."""
        if main not in self.texts:
            raise ModuleError("missing", (main,))
        building = Building(self.texts, self.built)
        building.make_sure(main)
        self.built = building.built
        return list(building.report)

    def artifact(self, name):
        """Return the artifact that was built last, or None."""
        compiled = self.compiled(name)
        return None if compiled is None else compiled.artifact()

    def compiled(self, name):
        """Return what compiling gave when the module was built last, or None."""
        self.demand(name)
        return self.built[name].result if name in self.built else None

    def all_artifacts(self):
        """Return the dict of all artifacts that were built."""
        return {name: self.built[name].result.artifact() for name in self.built}

    def program(self, main):
        """Return the text of the program of a main module, of what was built."""
        return program(self.all_artifacts(), main)

    def run(self, main, fuel):
        """Return what the program of a main module gives, of what was built."""
        return run(self.all_artifacts(), main, fuel)
