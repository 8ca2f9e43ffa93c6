"""Building: modules are compiled when there is a reason for it."""

from wherewritten.artifacts import interface
from wherewritten.compiling import compile_with
from wherewritten.errors import ModuleError, WhereError


class Built:
    """What was built of a module: its text then, what compiling gave, and the notes."""

    def __init__(self, text, compiled, notes):
        self.source = text
        self.result = compiled
        # Triples (module, shift, text of the interface), in the order of making ready.
        self.notes = notes


class Building:
    """One building of modules with some texts, from what was built before."""

    def __init__(self, texts, built):
        self.texts = {name: texts[name] for name in texts}
        self.built = {name: built[name] for name in built}
        # The modules that were begun and have not ended, in order, and those that have ended.
        self.underway = []
        self.ended = {}
        self.report = []
        self.interfaces = {}
        # How many compilings are tried only, and what failed since a module ended.
        self.trials = 0
        self.failed = {}

    def artifact_of(self, name):
        """Return the artifact of a module, which is made sure of, or None if it has no text."""
        if name not in self.texts:
            return None
        self.make_sure(name)
        return self.built[name].result.artifact()

    def make_sure(self, name):
        """Make sure that what was built of a module is as it would be in a new store."""
        if name in self.ended:
            return
        if name in self.underway:
            raise ModuleError("cycle", tuple(self.underway[self.underway.index(name):]))
        if self.trials > 0 and name in self.failed:
            raise ModuleError("missing", (name,))
        self.underway.append(name)
        self.renew(name)
        self.underway.pop()
        self.ended[name] = True
        self.failed = {}

    def renew(self, name):
        """Compile a module if there is a reason for it."""
        if name not in self.built:
            self.compile_for(name, "new", None)
            return
        before = self.built[name]
        if before.source != self.texts[name]:
            self.compile_for(name, "text", None)
            return
        for module, shift, noted in before.notes[::-1]:
            if module in self.texts:
                if not self.asks(name, module):
                    return
                if self.interface_text(module, shift) == noted:
                    continue
            self.compile_for(name, "interface", module)
            return

    def asks(self, name, module):
        """Make sure of a module that a note of another one names; tell whether this is not compiled yet.

        An error ends the building only if the module still needs the other one: otherwise a new
        store would not meet the error.
        """
        many = len(self.underway)
        try:
            self.make_sure(module)
        except WhereError:
            del self.underway[many:]
            self.failed[module] = True
            if not self.compiles(name, module):
                raise
            return False
        return True

    def compiles(self, name, module):
        """Tell whether a module compiles although one that it needed does not."""
        many = len(self.underway)
        self.trials += 1
        is_sound = True
        try:
            self.compile_for(name, "interface", module)
        except WhereError:
            del self.underway[many:]
            is_sound = False
        self.trials -= 1
        return is_sound

    def compile_for(self, name, reason, module):
        """Compile a module for a reason; the module of a note is part of it, or None."""
        text = self.texts[name]
        compiled = compile_with(name, text, self)
        notes = []
        for other, shift in compiled.ready():
            notes.append((other, shift, self.interface_text(other, shift)))
        self.built[name] = Built(text, compiled, notes)
        self.report.append((name, reason, module))

    def interface_text(self, module, shift):
        """Return the text of the interface for a shift of a module that was made sure of."""
        key = (module, shift)
        if key not in self.interfaces:
            self.interfaces[key] = interface(self.built[module].result.artifact(), shift)
        return self.interfaces[key]
