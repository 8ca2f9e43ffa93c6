"""The errors of the program; their fields tell what is wrong."""


class WhereError(ValueError):
    """The base class of all errors of the program."""


class ReadError(WhereError):
    """A text cannot be read; at is the index at which this shows."""

    def __init__(self, at):
        WhereError.__init__(self, f"the text cannot be read at {at}")
        self.at = at


class RulesError(WhereError):
    """Rules are wrong, or do not fit what they are applied to."""

    def __init__(self, code, occurrence):
        WhereError.__init__(self, f"rules: {code} at {occurrence}")
        self.code = code
        self.occurrence = occurrence


class RunError(WhereError):
    """An evaluation went wrong."""

    def __init__(self, code, occurrence):
        WhereError.__init__(self, f"evaluation: {code} at {occurrence}")
        self.code = code
        self.occurrence = occurrence


class ExpandError(WhereError):
    """A module cannot be compiled."""

    def __init__(self, code, occurrence):
        WhereError.__init__(self, f"expansion: {code} at {occurrence}")
        self.code = code
        self.occurrence = occurrence


class ModuleError(WhereError):
    """Modules do not go together."""

    def __init__(self, code, names):
        WhereError.__init__(self, f"modules: {code} of {names}")
        self.code = code
        self.names = names


class StoreError(WhereError):
    """What was asked of the texts of modules is refused."""

    def __init__(self, code):
        WhereError.__init__(self, f"refused: {code}")
        self.code = code
