"""What expanding procedures find around them while a module is compiled."""

from wherewritten.errors import RunError
from wherewritten.expanding import NoExpansion
from wherewritten.syntax import added
from wherewritten.table import is_macro


class Watching(NoExpansion):
    """What they find in evaluations in which nothing is expanded: these only note what was equal."""

    def __init__(self, record):
        self.record = record

    def link(self, first, second):
        """Keep that two identifiers were found to be the same."""
        self.record.link(first, second)


class Expansion:
    """What they find while a use of a macro is expanded."""

    def __init__(self, session, setting, use):
        self.session = session
        self.setting = setting
        # The occurrence of the use.
        self.use_place = use

    def demand(self, occurrence):
        """Nothing is wrong: something is expanded."""

    def link(self, first, second):
        """Keep that two identifiers were found to be the same."""
        self.session.record.link(first, second)

    def compared(self, first, second, occurrence):
        """Tell whether two identifiers are the same reference; None if it cannot be told."""
        return self.session.record.compare(self.setting.phase, first, second)

    def freshened(self, identifier, occurrence):
        """Return an identifier with a new scope added."""
        return added(identifier, self.session.new_scope("fresh", self.use_place))

    def looked_up(self, identifier, occurrence):
        """Return the value of the macro to which an identifier is bound."""
        target = self.session.record.look(self.setting.phase, identifier)[1]
        if target is None or not is_macro(target) or not self.setting.lets(target):
            raise RunError("macro", occurrence)
        return self.session.macro_value(target, self.setting.phase)
