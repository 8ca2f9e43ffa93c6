"""Groups of forms of a module at a level."""

from wherewritten.bodies import Pass
from wherewritten.offering import keep_offers, take_offers
from wherewritten.setting import Environment, Setting
from wherewritten.shapes import demand_definition
from wherewritten.syntax import occurrence_of
from wherewritten.using import take_specs


class Group(Pass):
    """The forms of a group at a level; owner is the occurrence of its up, or None."""

    def __init__(self, expander, level, owner):
        setting = Setting(level, Environment(None), 0, expander.session.context)
        Pass.__init__(self, expander, setting)
        self.level = level
        self.owner = owner
        # What pass 2 expands: pairs of the number of a variable, or None, and an expression.
        self.kept = []

    def keep(self, form):
        """Keep an expression."""
        self.kept.append((None, form))

    def take_word(self, word, form):
        """Take a list with a word other than do."""
        if word == "up":
            self.demand_macros(form)
            take_group(self.expander, list(form[1][1:]), self.level + 1, occurrence_of(form))
        elif word == "use":
            take_specs(self.session, form[1][1:], self.level)
        elif word == "offer":
            keep_offers(self.session, form[1][1:], self.level)
        else:
            self.take_common(word, form)

    def bind(self, identifier, target):
        """Bind an identifier to a new variable or macro of the module."""
        binder = self.setting.context.cleared(identifier)
        self.session.bind(self.level, binder, target)
        self.session.defined.append((binder, target))

    def take_def(self, form):
        """Bind the variable of a definition."""
        demand_definition(form)
        number = self.session.count_on(("top", self.level))
        self.bind(form[1][1], ("top", self.session.module, self.level, number))
        self.kept.append((number, form[1][2]))

    def take_defmac(self, form):
        """Bind the macro of a definition, which is evaluated at once."""
        demand_definition(form)
        self.demand_macros(form)
        term = self.expander.expand(form[1][2], self.setting.of_macro())
        number = self.session.count_on(("macro", self.level))
        self.do_item(("mac", self.level, number, term), occurrence_of(form))
        self.bind(form[1][1], ("macro", self.session.module, self.level, number))

    def do_item(self, item, occurrence):
        """Evaluate an item, and keep it."""
        self.session.do_item(self.session.module, 0, item, occurrence)
        self.session.item_rows.append(item)

    def finish(self):
        """Expand what is left; above level 0 evaluate it, too."""
        made = []
        for number, form in self.kept:
            term = self.expander.expand(form, self.setting)
            if number is not None:
                made.append(("def", self.level, number, term))
            else:
                parts = term[1] if term[0] == "do" else (term,)
                made.extend([("expr", self.level, 0, part) for part in parts])
        for item in made:
            if self.level > 0:
                self.do_item(item, self.owner)
            else:
                self.session.item_rows.append(item)


def take_group(expander, forms, level, owner):
    """Take a group at a level, with both passes."""
    group = Group(expander, level, owner)
    group.take_all(forms)
    if level == 0:
        take_offers(expander.session)
    group.finish()
