"""Passes over forms with definitions, and bodies."""

from wherewritten.errors import ExpandError
from wherewritten.setting import Environment, Setting
from wherewritten.shapes import demand_definition
from wherewritten.syntax import added, occurrence_of
from wherewritten.table import LAST_PHASE, is_macro

NO_EXPRESSIONS = (
    "def", "defmac", "up", "use", "offer", "only", "except", "rename", "as", "all",
)


def do_of(terms):
    """Return the term of some terms that are evaluated one after the other."""
    flat = []
    for term in terms:
        if term[0] == "do":
            flat.extend(term[1])
        else:
            flat.append(term)
    return flat[0] if len(flat) == 1 else ("do", tuple(flat))


class Pass:
    """The first pass over the forms of a body or group."""

    def __init__(self, expander, setting):
        self.expander = expander
        self.session = expander.session
        self.setting = setting

    def take_all(self, forms):
        """Take forms, and what becomes of them; then look at late bindings."""
        start = len(self.session.record.log)
        left = forms[::-1]
        while left:
            form = left.pop()
            told = self.expander.look_at(form, self.setting)
            target = None if told is None else told[1]
            if target is not None and is_macro(target):
                left.append(self.expander.use(form, target, self.setting))
            elif target is None or target[0] != "word" or form[0] == "id":
                self.keep(form)
            elif target[1] == "do":
                left.extend(form[1][:0:-1])
            else:
                self.take_word(target[1], form)
        self.session.record.check_late(start)

    def take_common(self, word, form):
        """Take a list with a word that means the same in bodies and groups."""
        if word == "def":
            self.take_def(form)
        elif word == "defmac":
            self.take_defmac(form)
        elif word in NO_EXPRESSIONS:
            raise ExpandError("place", occurrence_of(form))
        else:
            self.keep(form)

    def demand_macros(self, form):
        """Raise an error unless macros can be bound at the phase."""
        if self.setting.phase == LAST_PHASE:
            raise ExpandError("phases", occurrence_of(form))


class Body(Pass):
    """The forms of a body; owner is the occurrence of the list whose body it is."""

    def __init__(self, expander, owner, setting):
        Pass.__init__(self, expander, setting)
        self.owner = owner
        # The pairs of the number of a variable and its expression, and the expressions behind them.
        self.definitions = []
        self.expressions = []

    def keep(self, form):
        """Keep an expression."""
        self.expressions.append(form)

    def take_word(self, word, form):
        """Take a list with a word other than do."""
        self.take_common(word, form)

    def demand_order(self, form):
        """Raise an error if an expression was kept ahead of a definition."""
        if self.expressions:
            raise ExpandError("order", occurrence_of(form))

    def take_def(self, form):
        """Bind the variable of a definition."""
        demand_definition(form)
        self.demand_order(form)
        target = self.session.new_local()
        self.bind(form[1][1], target)
        self.definitions.append((target[2], form[1][2]))

    def take_defmac(self, form):
        """Bind the macro of a definition."""
        demand_definition(form)
        self.demand_order(form)
        self.demand_macros(form)
        setting = self.setting.of_macro()
        term = self.expander.expand(form[1][2], setting)
        value = self.session.evaluate(term, setting.phase, occurrence_of(form))
        target = self.session.new_own(value, self.setting.context.number)
        self.bind(form[1][1], target)

    def bind(self, identifier, target):
        """Bind an identifier for the whole body."""
        self.session.bind(self.setting.phase, self.setting.context.cleared(identifier), target)
        self.setting.environment.let_in(target)

    def finish(self):
        """Return the term of the body."""
        if not self.expressions:
            raise ExpandError("form", self.owner)
        pairs = []
        for number, form in self.definitions:
            pairs.append((number, self.expander.expand(form, self.setting)))
        terms = []
        for form in self.expressions:
            terms.append(self.expander.expand(form, self.setting))
        return ("rec", tuple(pairs), do_of(terms)) if pairs else do_of(terms)


def expand_body(expander, forms, owner, setting):
    """Return the term of the forms of a body; the setting is that of its expressions."""
    session = expander.session
    edge = session.new_scope("body", owner)
    inner = Setting(setting.phase, Environment(setting.environment), setting.around, session.new_context())
    body = Body(expander, owner, inner)
    body.take_all([added(form, edge) for form in forms])
    return body.finish()
