"""Where something is expanded: at which phase, with which variables, inside of what."""


class Environment:
    """The local variables and local macros that may be used."""

    def __init__(self, around):
        # The environment further out, or None.
        self.around = around
        self.known = {}

    def let_in(self, target):
        """Let a local variable or macro be used."""
        self.known[target] = True

    def has(self, target):
        """Tell whether a local variable or macro may be used."""
        environment = self
        while environment is not None:
            if target in environment.known:
                return True
            environment = environment.around
        return False


class Context:
    """A module or a body, with the use-site scopes that were made for it."""

    def __init__(self, number):
        self.number = number
        self.use_sites = {}

    def take_use_site(self, scope):
        """Keep a new use-site scope."""
        self.use_sites[scope] = True

    def cleared(self, identifier):
        """Return an identifier without the use-site scopes."""
        scopes = tuple([scope for scope in identifier[3] if scope not in self.use_sites])
        return ("id", identifier[1], identifier[2], scopes)


class Setting:
    """A phase, an environment, how many expressions are around, and a context."""

    def __init__(self, phase, environment, around, context):
        self.phase = phase
        self.environment = environment
        self.around = around
        self.context = context

    def lets(self, target):
        """Tell whether what is bound to a target may be used: what is not local always may."""
        return target[0] not in ("local", "own") or self.environment.has(target)

    def inside(self, environment=None, more=1):
        """Return the setting of what stands inside of more expressions, perhaps in another environment."""
        known = self.environment if environment is None else environment
        return Setting(self.phase, known, self.around + more, self.context)

    def of_macro(self):
        """Return the setting of a term whose value is a macro here: a phase on, without variables."""
        return Setting(self.phase + 1, Environment(None), self.around, self.context)
