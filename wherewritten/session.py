"""What is there while one module is compiled."""

from wherewritten.blocks import block_of
from wherewritten.errors import ExpandError, RunError
from wherewritten.expansion import Watching
from wherewritten.interfaces import phase_of_item
from wherewritten.machine import Machine
from wherewritten.record import Record
from wherewritten.setting import Context
from wherewritten.syntax import occurrence_of
from wherewritten.table import Table

MOST_TERMS = 100000


class Session:
    """The compiling of one module; a provider has the artifacts of others."""

    def __init__(self, module, provider):
        self.module = module
        self.provider = provider
        self.meanings = Table()
        self.record = Record(self.meanings)
        self.machine = Machine(MOST_TERMS, Watching(self.record))
        # How many there are of what is counted.
        self.counts = {}
        # The scopes that were made: pairs (kind, occurrence).
        self.scope_rows = []
        # The depths of pattern variables, by their targets.
        self.depths = {}
        # The values of macros: by targets if they are local, else by (module, shift, level, number).
        self.macros = {}
        # The numbers of the contexts in which a defmac bound local macros, or None, by their targets.
        self.homes = {}
        # The bindings that were made or imported here, and the occurrences of the binders.
        self.bindings = []
        self.binder_rows = []
        # The steps, and how much syntax each of them added.
        self.step_rows = []
        self.step_growths = []
        self.context = self.new_context()
        # The pairs of a binder and a target that def and defmac of the module bound, and the pairs of
        # a spec and a level of its offers.
        self.defined = []
        self.offer_specs = []
        # What the artifact will tell.
        self.uses = []
        self.offers = []
        self.item_rows = []
        # The pairs (module, shift) that are made ready, as soon as this begins; and when it ended.
        self.readied = {}
        self.ready_rows = []

    def count_on(self, what):
        """Return the next number of what is counted."""
        number = self.counts.get(what, 0)
        self.counts[what] = number + 1
        return number

    def new_scope(self, kind, occurrence):
        """Return a new scope."""
        self.scope_rows.append((kind, occurrence))
        return (self.module, len(self.scope_rows) - 1, 0)

    def new_context(self):
        """Return the context of the module, and then those of bodies."""
        return Context(self.count_on("context"))

    def new_local(self):
        """Return the target of a new local variable."""
        return ("local", self.module, self.count_on("local"))

    def new_own(self, value, home=None):
        """Return the target of a new local macro; home is the number of the context of its defmac, if any."""
        target = ("own", self.module, self.count_on("own"))
        self.macros[target] = value
        self.homes[target] = home
        return target

    def bind(self, phase, identifier, target):
        """Bind an identifier at a phase to a target."""
        name, scopes = identifier[1], identifier[3]
        giver = occurrence_of(identifier)
        if self.meanings.target_at(phase, name, scopes) is not None:
            raise ExpandError("double", giver)
        self.add_binding((phase, name, scopes, target, giver))
        self.binder_rows.append(giver)

    def add_binding(self, row):
        """Add a binding that is one of this module."""
        self.meanings.put_row(row)
        self.bindings.append(row)

    def is_at_home(self, target, context):
        """Tell whether a macro was bound by a defmac of a context."""
        if target[0] == "own":
            return self.homes[target] == context.number
        return target[1] == self.module and context.number == self.context.number

    def macro_value(self, target, phase):
        """Return the value of a macro that is bound at a phase."""
        if target[0] == "own":
            return self.macros[target]
        _, module, level, number = target
        return self.macros[(module, phase - level, level, number)]

    def evaluate(self, term, phase, occurrence):
        """Return the value of a term at a phase; errors tell the occurrence."""
        try:
            return self.machine.run(block_of(term, phase))
        except RunError as error:
            raise ExpandError("run " + error.code, occurrence) from None

    def apply_macro(self, procedure, syntax, around, occurrence):
        """Return what a procedure makes of syntax while it is expanded."""
        try:
            return self.machine.apply_within(around, procedure, [("syntax", syntax)], occurrence)
        except RunError as error:
            raise ExpandError("run " + error.code, occurrence) from None

    def do_item(self, module, shift, item, occurrence):
        """Evaluate an item in the instance of a module with a shift."""
        kind, level, number, term = item
        value = self.evaluate(term, phase_of_item(item, shift), occurrence)
        if kind == "def":
            self.machine.hold((module, shift, level, number), value)
        elif kind == "mac":
            self.macros[(module, shift, level, number)] = value

    def spent(self):
        """Return how many terms were begun."""
        return MOST_TERMS - self.machine.left
