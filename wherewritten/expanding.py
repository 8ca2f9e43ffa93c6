"""What expanding procedures find around them."""

from wherewritten.errors import RunError


class NoExpansion:
    """What they find while nothing is expanded: each thing that they may ask for is an error."""

    def link(self, first, second):
        """Keep that two identifiers were found to be the same; nobody asks for it here."""

    def demand(self, occurrence):
        """Raise an error unless something is expanded."""
        raise RunError("expanding", occurrence)

    def compared(self, first, second, occurrence):
        """Tell whether two identifiers are the same reference; None if it cannot be told."""
        raise RunError("expanding", occurrence)

    def freshened(self, identifier, occurrence):
        """Return an identifier with a new scope added."""
        raise RunError("expanding", occurrence)

    def looked_up(self, identifier, occurrence):
        """Return the value of the macro to which an identifier is bound."""
        raise RunError("expanding", occurrence)
