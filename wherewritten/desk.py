"""A desk: commands for a store, and their answers as texts."""

from wherewritten.arrows import all_arrows, group
from wherewritten.calling import called_otherwise, compile_all, is_written
from wherewritten.errors import ExpandError, ModuleError, ReadError, RunError, StoreError
from wherewritten.looks import growths, loose
from wherewritten.store import Store

MOST_FUEL = 1000000

# The kinds of the parts of commands, behind the word.
COMMANDS = {
    "put": ("text", "text"),
    "drop": ("text",),
    "call": ("text", "place", "text"),
    "undo": (),
    "build": ("text",),
    "run": ("text", "fuel"),
    "program": ("text",),
    "arrows": ("text", "place"),
    "group": ("text", "place"),
    "steps": ("text",),
    "loose": (),
}


def _is_of_kind(part, kind):
    if kind == "text":
        return isinstance(part, str)
    if not isinstance(part, int) or isinstance(part, bool) or part < 0:
        return False
    return kind == "place" or part <= MOST_FUEL


def _check_command(command):
    """Raise an error unless a command has the parts that it must have."""
    if not command or not isinstance(command[0], str) or command[0] not in COMMANDS:
        raise StoreError("command")
    kinds = COMMANDS[command[0]]
    if len(command) != len(kinds) + 1:
        raise StoreError("command")
    for part, kind in zip(command[1:], kinds):
        if not _is_of_kind(part, kind):
            raise StoreError("command")


def _shown_occurrence(occurrence):
    module, place = occurrence
    return f"{module}:{place}"


def _shown_field(field):
    if field is None:
        return "none"
    if not isinstance(field, tuple):
        return str(field)
    if len(field) == 2 and isinstance(field[1], int):
        return _shown_occurrence(field)
    return ",".join(field)


def _line(*parts):
    """Return the line of some parts."""
    return " ".join([_shown_field(part) for part in parts]) + "\n"


class Desk:
    """A store, and the changes that were made to it."""

    def __init__(self):
        self.held = Store()
        # The texts ahead of each change that was not taken back.
        self.changes = []

    def store(self):
        """Return the store."""
        return self.held

    def answer(self, command):
        """Do what a command tells, and return the answer."""
        try:
            _check_command(command)
            return self.obey(command)
        except ReadError as error:
            return _line("error", "ReadError", error.at)
        except RunError as error:
            return _line("error", "RunError", error.code, error.occurrence)
        except ExpandError as error:
            return _line("error", "ExpandError", error.code, error.occurrence)
        except ModuleError as error:
            return _line("error", "ModuleError", error.code, error.names)
        except StoreError as error:
            return _line("error", "StoreError", error.code)

    def obey(self, command):
        """Do what a command with the right parts tells, and return the answer."""
        word = command[0]
        if word in ("put", "drop", "call"):
            return self.change(command)
        if word == "undo":
            return self.undo()
        if word in ("build", "run", "program"):
            return self.build(command)
        if word in ("arrows", "group"):
            return self.tell_of(word, (command[1], command[2]))
        if word == "steps":
            return self.tell_steps(command[1])
        return "".join([_line(occurrence) for occurrence in loose(compile_all(self.held.texts))])

    def change(self, command):
        """Change texts of the store."""
        before = {name: self.held.texts[name] for name in self.held.texts}
        if command[0] == "put":
            self.held.put(command[1], command[2])
        elif command[0] == "drop":
            self.held.drop(command[1])
        else:
            texts = called_otherwise(before, (command[1], command[2]), command[3])
            for name in texts:
                self.held.put(name, texts[name])
        self.changes.append(before)
        return "done\n"

    def undo(self):
        """Take the last change back."""
        if not self.changes:
            raise StoreError("undo")
        before = self.changes.pop()
        for name in self.held.names():
            if name not in before:
                self.held.drop(name)
        for name in before:
            self.held.put(name, before[name])
        return "done\n"

    def build(self, command):
        """Build a main module, and tell of the building, of what it gives, or its program."""
        store, main = self.held, command[1]
        before = store.built
        report = store.build(main)
        if command[0] == "build":
            return "".join([_line(*entry) for entry in report])
        if command[0] == "program":
            return store.program(main)
        try:
            told = store.run(main, command[2])
        except RunError:
            store.built = before
            raise
        return "".join([_line(*pair) for pair in told])

    def tell_of(self, word, occurrence):
        """Tell of the arrows or of the group of an occurrence."""
        if not is_written(self.held.texts, occurrence):
            raise StoreError("place")
        made = compile_all(self.held.texts)
        if word == "group":
            return "".join([_line(member) for member in group(made, occurrence)])
        arrows = all_arrows(made)
        lines = [_line("to", giver) for use, giver in arrows if use == occurrence]
        lines.extend([_line("from", use) for use, giver in arrows if giver == occurrence])
        return "".join(lines)

    def tell_steps(self, name):
        """Tell of the steps of a module."""
        self.held.demand(name)
        index = self.held.names().index(name)
        compiled = compile_all(self.held.texts)[index]
        lines = []
        for step, growth in zip(compiled.steps(), growths(compiled)):
            lines.append(_line(step[0], step[1], growth))
        return "".join(lines)
