"""The machine on which terms are evaluated.

A block is what a term, or the term of a fn, is turned to: a row of steps. A step is a tuple
(action, cost, and three operands): how many terms begin with it, and a function that does it.
Calls wait on a stack of their own, so nothing but fuel limits how deep they are.

The variables of a running block are in a frame: a list of the frame of the block around it and of
what the variables hold, or None for those that hold nothing yet.
"""

from wherewritten.applying import applied
from wherewritten.errors import RunError


def key_of_top(variable, phase):
    """Return where a machine keeps a variable of a module that stands at a phase: with the shift of its instance."""
    _, module, level, number, _ = variable
    return (module, phase - level, level, number)


class Block:
    """The steps of a term, and where its variables are."""

    def __init__(self, around, parameters, phase):
        # The block in which the fn stands, or None.
        self.around = around
        self.phase = phase
        self.many = len(parameters)
        # The places in the frame of the variables that are bound here, by their numbers.
        self.places = {}
        self.bind(parameters)
        self.actions = []
        # How many terms have begun since the last step.
        self.cost = 0

    def bind(self, variables):
        """Give variables places in the frame.

        Those of a rec get theirs in the frame of the fn around it: a running block comes to each
        of its terms at most once, so they are new whenever they are made.
        """
        for variable in variables:
            self.places[variable] = len(self.places) + 1

    def address(self, variable):
        """Return how many frames further out a variable is, and its place there."""
        hops = 0
        block = self
        while variable not in block.places:
            block = block.around
            hops += 1
        return (hops, block.places[variable])

    def add_step(self, action, first=None, second=None, third=None):
        """Add a step, with which all terms begin that have begun since the last one."""
        self.actions.append((action, self.cost, first, second, third))
        self.cost = 0

    def add_jump(self, action):
        """Add a step that goes on elsewhere, and return its index."""
        self.add_step(action)
        return len(self.actions) - 1

    def land(self, at):
        """Let the jump at an index go on at the next step that is added."""
        action, cost, _, _, _ = self.actions[at]
        self.actions[at] = (action, cost, len(self.actions), None, None)


class Machine:
    """Runs blocks with fuel for some terms; around tells what expanding procedures find."""

    def __init__(self, fuel, around):
        self.left = fuel
        self.around = around
        # What the variables of modules hold, by (module, shift, level, number).
        self.tops = {}
        self.stack = []
        # What goes on behind the calls: (steps, index of the next one, frame).
        self.waiting = []
        self.actions = None
        self.at = 0
        self.frame = None

    def run(self, block):
        """Return the value of a block that stands in no other."""
        self.begin(block, None, [])
        return self.finish()

    def apply_within(self, around, procedure, given, occurrence):
        """Return what a procedure gives for some arguments; around is what is found until then.

        An error leaves the machine as it is then: nobody goes on with it.
        """
        before = self.around
        self.around = around
        if procedure[0] != "closure":
            value = applied(procedure, given, occurrence, around)
        elif len(given) != procedure[1].many:
            raise RunError("count", occurrence)
        else:
            self.begin(procedure[1], procedure[2], given)
            value = self.finish()
        self.around = before
        return value

    def hold(self, key, value):
        """Let a variable of a module hold a value."""
        self.tops[key] = value

    def finish(self):
        """Do what has begun, and return its value."""
        while self.actions is not None:
            step = self.actions[self.at]
            self.at += 1
            if step[1] > self.left:
                self.left = 0
                raise RunError("fuel", None)
            self.left -= step[1]
            action = step[0]
            action(self, step)
        return self.stack.pop()

    def begin(self, block, frame, given):
        """Begin a block; what is done now goes on when it has ended."""
        self.waiting.append((self.actions, self.at, self.frame))
        self.go_on(block, frame, given)

    def go_on(self, block, frame, given):
        """Begin a block in place of the one that is done now."""
        self.actions = block.actions
        self.at = 0
        self.frame = [frame, *given] + [None] * (len(block.places) - block.many)

    def frame_at(self, hops):
        """Return the frame that is some frames further out."""
        frame = self.frame
        for _ in range(hops):
            frame = frame[0]
        return frame


def do_value(machine, step):
    """Put a value on the stack."""
    machine.stack.append(step[2])


def do_local(machine, step):
    """Put what a variable holds on the stack."""
    value = machine.frame_at(step[2])[step[3]]
    if value is None:
        raise RunError("early", step[4])
    machine.stack.append(value)


def do_set(machine, step):
    """Let a variable hold the value on top of the stack."""
    frame = machine.frame_at(step[2])
    if frame[step[3]] is None:
        raise RunError("early", step[4])
    frame[step[3]] = machine.stack[-1]


def do_top(machine, step):
    """Put what a variable of a module holds on the stack."""
    if step[2] not in machine.tops:
        raise RunError("early", step[4])
    machine.stack.append(machine.tops[step[2]])


def do_set_top(machine, step):
    """Let a variable of a module hold the value on top of the stack."""
    if step[2] not in machine.tops:
        raise RunError("early", step[4])
    machine.tops[step[2]] = machine.stack[-1]


def do_fill(machine, step):
    """Take a value for a new variable."""
    machine.frame[step[2]] = machine.stack.pop()


def do_close(machine, step):
    """Put a procedure of a block on the stack."""
    machine.stack.append(("closure", step[2], machine.frame))


def do_drop(machine, step):
    """Take a value that is not needed."""
    machine.stack.pop()


def do_unless(machine, step):
    """Go on elsewhere if a value is the flag False."""
    value = machine.stack.pop()
    if value[0] == "flag" and not value[1]:
        machine.at = step[2]


def do_jump(machine, step):
    """Go on elsewhere."""
    machine.at = step[2]


def do_return(machine, step):
    """End a block; its value stays on the stack."""
    machine.actions, machine.at, machine.frame = machine.waiting.pop()


def _take(machine, many):
    """Return the arguments on top of the stack and the procedure below them."""
    stack = machine.stack
    start = len(stack) - many
    given = stack[start:]
    del stack[start:]
    return (stack.pop(), given)


def do_call(machine, step):
    """Apply a procedure to arguments."""
    procedure, given = _take(machine, step[2])
    if procedure[0] != "closure":
        machine.stack.append(applied(procedure, given, step[3], machine.around))
        return
    if len(given) != procedure[1].many:
        raise RunError("count", step[3])
    if step[4]:
        machine.go_on(procedure[1], procedure[2], given)
    else:
        machine.begin(procedure[1], procedure[2], given)
